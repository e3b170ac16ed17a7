package plane

import (
	"math"
	"math/big"
	"testing"

	"balise/api"
)

const far = api.MaxPlace

var minus = math.Copysign(0, -1)

func TestPlace(t *testing.T) {
	nan, inf := math.NaN(), math.Inf(1)
	for i, c := range []struct {
		part float64
		want bool
	}{
		{0, true}, {minus, true}, {1, true}, {-1, true}, {999999, true},
		{far, true}, {-far, true}, {far + 1, false}, {-far - 1, false},
		{math.Nextafter(far, inf), false}, {math.Nextafter(-far, -inf), false},
		{math.Nextafter(far, 0), false}, {0.5, false}, {-0.5, false}, {999999.5, false},
		{math.SmallestNonzeroFloat64, false}, {-math.SmallestNonzeroFloat64, false},
		{math.Nextafter(1, 0), false}, {1 << 62, false}, {1 << 63, false}, {1 << 32, false},
		{math.MaxFloat64, false}, {nan, false}, {inf, false}, {-inf, false},
	} {
		for _, other := range []float64{0, minus, 7, -7, far, -far} {
			if got := Place(complex(c.part, other)); got != c.want {
				t.Errorf("%d: Place(%v, %v) = %v", i, c.part, other, got)
			}
			if got := Place(complex(other, c.part)); got != c.want {
				t.Errorf("%d: Place(%v, %v) = %v", i, other, c.part, got)
			}
		}
		if got := Place(complex(c.part, 0.5)); got {
			t.Errorf("%d: Place(%v, 0.5) = true", i, c.part)
		}
	}
}

// someDifferences: what one place is less another one, at the edges and in between.
func someDifferences() []complex128 {
	parts := []float64{0, minus, 1, -1, 2, -3, 4097, -99991, 999999, far, -far, far + 1, 2*far - 1, 1 - 2*far, 2 * far, -2 * far}
	var all []complex128
	for _, x := range parts {
		for _, y := range parts {
			all = append(all, complex(x, y))
		}
	}
	return all
}

func whole(x float64) *big.Int {
	return big.NewInt(int64(x))
}

func product(x, y float64) *big.Int {
	return new(big.Int).Mul(whole(x), whole(y))
}

// isJust: x is a whole number, has no rounding, and no sign if it is nought.
func isJust(x float64, want *big.Int) bool {
	got, exact := big.NewFloat(x).Int(nil)
	return exact == big.Exact && got.Cmp(want) == 0 && (x != 0 || !math.Signbit(x))
}

func TestProductsAreExact(t *testing.T) {
	all := someDifferences()
	for _, u := range all {
		for _, v := range all {
			dot := new(big.Int).Add(product(real(u), real(v)), product(imag(u), imag(v)))
			if got := Dot(u, v); !isJust(got, dot) {
				t.Fatalf("Dot(%v, %v) = %v, not %v", u, v, got, dot)
			}
			cross := new(big.Int).Sub(product(real(u), imag(v)), product(imag(u), real(v)))
			if got := Cross(u, v); !isJust(got, cross) {
				t.Fatalf("Cross(%v, %v) = %v, not %v", u, v, got, cross)
			}
		}
		square := new(big.Int).Add(product(real(u), real(u)), product(imag(u), imag(u)))
		if got := Square(u); !isJust(got, square) {
			t.Fatalf("Square(%v) = %v, not %v", u, got, square)
		}
	}
}

func TestProductsOfFew(t *testing.T) {
	for i, c := range []struct {
		u, v       complex128
		dot, cross float64
	}{
		{3 + 4i, 2 - 1i, 2, -11}, {1, 1i, 0, 1}, {1i, 1, 0, -1}, {5 + 2i, 5 + 2i, 29, 0},
		{-2, 3, -6, 0}, {2 * far * (1 + 1i), 2 * far * (1 - 1i), 0, -8e12}, {2 * far * (1 + 1i), 2 * far * (1 + 1i), 8e12, 0},
	} {
		if Dot(c.u, c.v) != c.dot || Cross(c.u, c.v) != c.cross {
			t.Errorf("%d: %v %v", i, Dot(c.u, c.v), Cross(c.u, c.v))
		}
	}
}

func TestAheadAndTurn(t *testing.T) {
	for i, c := range []struct {
		a, b, c complex128
		turn    int
		ahead   bool
	}{
		{0, 10, 10 + 5i, 1, false},
		{0, 10, 11 + 5i, 1, true},
		{0, 10, 9 + 5i, 1, false},
		{0, 10, 20, 0, true},
		{0, 10, 5, 0, false},
		{0, 10, 20 - 1i, -1, true},
		{0, 10, 10 - 1i, -1, false},
		{5 + 5i, 5 + 6i, 5 + 7i, 0, true},
		{5 + 5i, 5 + 6i, 4 + 7i, 1, true},
		{5 + 5i, 5 + 6i, 6 + 7i, -1, true},
		// Nowhere to come from, or to go to, is neither ahead nor a turn.
		{3, 3, 9 + 1i, 0, false},
		{3, 9 + 1i, 9 + 1i, 0, false},
		{3, 3, 3, 0, false},
		// All but straight, over the whole plane.
		{complex(-far, -far), 0, complex(far, far-1), -1, true},
		{complex(-far, -far), 0, complex(far-1, far), 1, true},
		{complex(-far, -far), complex(far, far), complex(far-1, far), 1, false},
		{complex(-far, -far), complex(far, far), complex(far, far-1), -1, false},
		{complex(-far, far), complex(far, -far), complex(-far, far), 0, false},
	} {
		if got := Turn(c.a, c.b, c.c); got != c.turn {
			t.Errorf("%d: Turn = %d", i, got)
		}
		if got := Ahead(c.a, c.b, c.c); got != c.ahead {
			t.Errorf("%d: Ahead = %v", i, got)
		}
	}
}

func TestAheadAndTurnOfAllNear(t *testing.T) {
	var near []complex128
	for x := -2; x <= 2; x++ {
		for y := -2; y <= 2; y++ {
			near = append(near, complex(float64(x), float64(y)))
		}
	}
	for _, a := range near {
		for _, b := range near {
			for _, c := range near {
				x1, y1 := int(real(b))-int(real(a)), int(imag(b))-int(imag(a))
				x2, y2 := int(real(c))-int(real(b)), int(imag(c))-int(imag(b))
				turn := max(-1, min(1, x1*y2-y1*x2))
				if Turn(a, b, c) != turn || Ahead(a, b, c) != (x1*x2+y1*y2 > 0) {
					t.Fatalf("%v %v %v: %d %v", a, b, c, Turn(a, b, c), Ahead(a, b, c))
				}
			}
		}
	}
}

func TestFits(t *testing.T) {
	for i, c := range []struct {
		a, b   complex128
		length int
		want   bool
	}{
		{0, 3 + 4i, 5, true},
		{0, 3 + 4i, 4, false},
		{0, 3 + 4i, 6, true},
		{3 + 4i, 0, 5, true},
		{-3, 4i, 5, true},
		{10 + 10i, 13 + 14i, 5, true},
		{10 + 10i, 13 + 14i, 4, false},
		{0, 1 + 1i, 1, false},
		{0, 1 + 1i, 2, true},
		{0, 1, 1, true},
		{0, 1, 0, false},
		{0, 1, -1, false},
		{0, 1, -api.MaxLen, false},
		{0, 1, api.MaxLen, true},
		{0, 1, api.MaxLen + 1, false},
		{0, api.MaxLen, api.MaxLen, true},
		{0, api.MaxLen, api.MaxLen - 1, false},
		{0, api.MaxLen + 1i, api.MaxLen, false},
		{complex(far, far), complex(far-api.MaxLen, far), api.MaxLen, true},
		{complex(far, far), complex(-far, -far), api.MaxLen, false},
		{0, 1, math.MaxInt, false},
		{0, 1, math.MinInt, false},
		{0, 1, 1 << 32, false},
		{0, 0, 5, false},
		{7 - 7i, 7 - 7i, 1, false},
		{complex(minus, 0), 0, 1, false},
	} {
		if got := Fits(c.a, c.b, c.length); got != c.want {
			t.Errorf("%d: Fits(%v, %v, %d) = %v", i, c.a, c.b, c.length, got)
		}
	}
}

// TestNothingPanics: of what is no place nothing is promised but an end.
func TestNothingPanics(t *testing.T) {
	parts := []float64{0, minus, 0.5, -1e300, math.MaxFloat64, math.NaN(), math.Inf(1), math.Inf(-1)}
	var all []complex128
	for _, x := range parts {
		for _, y := range parts {
			all = append(all, complex(x, y))
		}
	}
	for _, a := range all {
		Place(a)
		Square(a)
		for _, b := range all {
			Dot(a, b)
			Cross(a, b)
			for _, n := range []int{math.MinInt, -1, 0, 1, api.MaxLen, math.MaxInt} {
				Fits(a, b, n)
			}
			for _, c := range all {
				Ahead(a, b, c)
				Turn(a, b, c)
			}
		}
	}
}
