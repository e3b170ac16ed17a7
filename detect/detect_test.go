package detect

import (
	"bytes"
	"math"
	"slices"
	"testing"

	"balise/api"
)

const (
	least    = math.MinInt64
	greatest = math.MaxInt64
)

// steps takes n Steps at which all parts' detectors say clear.
func steps(f *Filter, n int) {
	for range n {
		f.Step(make([]byte, api.MaxParts))
	}
}

func wantCount(t *testing.T, f *Filter, part int, want int64) {
	t.Helper()
	if got := f.Count(part); got != want {
		t.Errorf("Count(%d) is %d, not %d", part, got, want)
	}
}

func wantClear(t *testing.T, f *Filter, part int, want bool) {
	t.Helper()
	if got := f.Clear(part); got != want {
		t.Errorf("Clear(%d) is %v at a Count of %d", part, got, f.Count(part))
	}
}

// wantStep takes a Step, and holds what it tells against what is to be told,
// and against Clear of each part.
func wantStep(t *testing.T, f *Filter, raw []byte, want ...bool) {
	t.Helper()
	got := f.Step(raw)
	if !slices.Equal(got, want) {
		t.Errorf("Step(%v) is %v, not %v", raw, got, want)
	}
	for part, clear := range got {
		if f.Clear(part) != clear {
			t.Errorf("Step(%v) tells %v of part %d, and Clear the other", raw, clear, part)
		}
	}
}

func TestExample(t *testing.T) {
	f := New(1, 1)
	wantStep(t, f, []byte{api.Clear}, false)
	wantStep(t, f, []byte{api.Clear}, true)
	wantStep(t, f, []byte{api.Fault}, false)
}

func TestParts(t *testing.T) {
	for _, c := range []struct{ parts, want int }{
		{math.MinInt, 0}, {-1, 0}, {0, 0}, {1, 1}, {2, 2},
		{api.MaxParts - 1, api.MaxParts - 1}, {api.MaxParts, api.MaxParts},
		{api.MaxParts + 1, api.MaxParts}, {99, api.MaxParts}, {math.MaxInt, api.MaxParts},
	} {
		f := New(c.parts, 0)
		if f == nil {
			t.Fatalf("New(%d) is none", c.parts)
		}
		for _, n := range []int{0, c.want, api.MaxParts + 9} {
			got := f.Step(make([]byte, n))
			if len(got) != c.want {
				t.Errorf("New(%d): Step of %d tells %d parts, not %d", c.parts, n, len(got), c.want)
			}
			for part, clear := range got {
				if clear != (part < n) {
					t.Errorf("New(%d): Step of %d tells %v of part %d", c.parts, n, clear, part)
				}
			}
		}
	}
}

func TestPartsThatThereArent(t *testing.T) {
	for _, parts := range []int{-3, 0, 1, 2, api.MaxParts, api.MaxParts + 1} {
		for _, stay := range []int64{least, -1, 0, 1} {
			f := New(parts, stay)
			steps(f, 3)
			n := min(max(parts, 0), api.MaxParts)
			for part := range n {
				wantCount(t, f, part, 3)
				wantClear(t, f, part, true)
			}
			for _, part := range []int{math.MinInt, -n, -2, -1, n, n + 1, 256, math.MaxInt} {
				if part >= 0 && part < n {
					continue
				}
				wantCount(t, f, part, 0)
				wantClear(t, f, part, false)
			}
		}
	}
}

func TestAtFirst(t *testing.T) {
	for _, stay := range []int64{least, -1, 0, 1, api.MaxTicks, greatest} {
		f := New(3, stay)
		for part := range 3 {
			wantCount(t, f, part, 0)
			wantClear(t, f, part, false)
		}
		wantStep(t, f, nil, false, false, false)
	}
}

func TestStay(t *testing.T) {
	for _, c := range []struct{ stay, holds int64 }{
		{least, 0}, {-api.MaxTicks, 0}, {-5, 0}, {-1, 0}, {0, 0}, {1, 1}, {2, 2}, {7, 7},
		{api.MaxTicks - 1, api.MaxTicks - 1}, {api.MaxTicks, api.MaxTicks},
		{api.MaxTicks + 1, api.MaxTicks}, {api.MaxTicks + 2, api.MaxTicks}, {greatest, api.MaxTicks},
	} {
		f := New(1, c.stay)
		for i := int64(1); i <= c.holds; i++ {
			if f.Step([]byte{api.Clear})[0] || f.Clear(0) {
				t.Fatalf("stay %d: it is clear at %d", c.stay, i)
			}
			wantCount(t, f, 0, i)
		}
		wantStep(t, f, []byte{api.Clear}, true)
		wantCount(t, f, 0, c.holds+1)
		wantStep(t, f, []byte{api.Clear}, true)
		wantStep(t, f, []byte{api.Occupied}, false)
		wantCount(t, f, 0, 0)
		if c.holds > 0 {
			wantStep(t, f, []byte{api.Clear}, false)
		}
	}
}

func TestCountGoesNoHigher(t *testing.T) {
	for _, stay := range []int64{least, 0, 1, api.MaxTicks, greatest} {
		f := New(2, stay)
		for i := int64(1); i <= api.MaxTicks+1; i++ {
			f.Step([]byte{api.Clear, api.Clear})
			wantCount(t, f, 0, i)
		}
		for range 300 {
			wantStep(t, f, []byte{api.Clear, api.Clear}, true, true)
			wantCount(t, f, 0, api.MaxTicks+1)
		}
		wantStep(t, f, []byte{api.Occupied, api.Clear}, false, true)
		wantCount(t, f, 0, 0)
		wantCount(t, f, 1, api.MaxTicks+1)
		f.Step([]byte{api.Clear, api.Clear})
		wantCount(t, f, 0, 1)
	}
}

func TestAnyOtherByte(t *testing.T) {
	for b := range 256 {
		for _, before := range []int{0, 1, 2, 3, 5} {
			f := New(1, 1)
			steps(f, before)
			wantStep(t, f, []byte{byte(b)}, b == api.Clear && before > 0)
			if b == api.Clear {
				wantCount(t, f, 0, int64(before)+1)
				continue
			}
			wantCount(t, f, 0, 0)
			wantStep(t, f, []byte{api.Clear}, false)
			wantCount(t, f, 0, 1)
			wantStep(t, f, []byte{api.Clear}, true)
		}
	}
}

func TestRawTooShort(t *testing.T) {
	for n := range 5 {
		f := New(4, 0)
		steps(f, 2)
		want := make([]bool, 4)
		for part := range n {
			want[part] = true
		}
		wantStep(t, f, make([]byte, n), want...)
		for part := range 4 {
			wantCount(t, f, part, map[bool]int64{true: 3}[part < n])
		}
	}
	f := New(2, 0)
	steps(f, 1)
	wantStep(t, f, nil, false, false)
	steps(f, 1)
	wantStep(t, f, []byte{}, false, false)
	// What lies behind a list's end isn't told, whatever it is.
	steps(f, 1)
	wantStep(t, f, make([]byte, 9)[:1], true, false)
}

func TestRawTooLong(t *testing.T) {
	for _, b := range []byte{api.Clear, api.Occupied, api.Fault, 255} {
		f := New(2, 0)
		raw := append([]byte{api.Occupied, api.Clear}, bytes.Repeat([]byte{b}, 1000)...)
		wantStep(t, f, raw, false, true)
		wantCount(t, f, 2, 0)
		wantClear(t, f, 2, false)
	}
}

func TestEachPartByItself(t *testing.T) {
	for part := range api.MaxParts {
		f := New(api.MaxParts, 1)
		steps(f, 4)
		raw := make([]byte, api.MaxParts)
		raw[part] = api.Occupied
		f.Step(raw)
		for other := range api.MaxParts {
			wantCount(t, f, other, map[bool]int64{false: 5}[other == part])
			wantClear(t, f, other, other != part)
		}
		raw = bytes.Repeat([]byte{api.Fault}, api.MaxParts)
		raw[part] = api.Clear
		f.Step(raw)
		for other := range api.MaxParts {
			wantCount(t, f, other, map[bool]int64{true: 1}[other == part])
			wantClear(t, f, other, false)
		}
	}
}

// Clear and Count ask, and change nothing.
func TestAskedOften(t *testing.T) {
	f := New(2, 2)
	steps(f, 2)
	for range 10 {
		wantCount(t, f, 0, 2)
		wantClear(t, f, 0, false)
		wantCount(t, f, 1, 2)
		wantClear(t, f, 1, false)
	}
	wantStep(t, f, []byte{api.Clear, api.Clear}, true, true)
}

func TestNothingIsShared(t *testing.T) {
	f := New(3, 0)
	raw := []byte{api.Clear, api.Occupied, api.Clear, 7}
	kept := slices.Clone(raw)
	told := f.Step(raw)
	if !slices.Equal(raw, kept) {
		t.Errorf("Step wrote into raw: %v", raw)
	}
	for i := range raw {
		raw[i] = 9
	}
	for i := range told {
		told[i] = !told[i]
	}
	for part, clear := range []bool{true, false, true} {
		wantClear(t, f, part, clear)
	}
	first := f.Step([]byte{api.Clear, api.Clear, api.Occupied})
	f.Step([]byte{api.Occupied, api.Occupied, api.Clear})
	if !slices.Equal(first, []bool{true, true, false}) {
		t.Errorf("the next Step wrote into what was answered: %v", first)
	}
	_ = append(first, false, false)
	wantCount(t, f, 2, 1)
}

func TestTwoFilters(t *testing.T) {
	f, g := New(2, 0), New(2, 3)
	steps(f, 2)
	for part := range 2 {
		wantCount(t, g, part, 0)
		wantCount(t, f, part, 2)
		wantClear(t, g, part, false)
		wantClear(t, f, part, true)
	}
}

func TestNil(t *testing.T) {
	var f *Filter
	for _, raw := range [][]byte{nil, {}, {api.Clear}, make([]byte, 40)} {
		if got := f.Step(raw); len(got) != 0 {
			t.Errorf("a nil filter tells %v", got)
		}
	}
	for _, part := range []int{math.MinInt, -1, 0, 1, api.MaxParts, math.MaxInt} {
		wantCount(t, f, part, 0)
		wantClear(t, f, part, false)
	}
}
