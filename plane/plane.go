// Package plane is layer 1: places in the plane, exactly.
//
// Parts of places, and of what one place is less another one, are so small
// that every product and sum here is a whole number below 2^53: none is ever
// rounded.
package plane

import (
	"math"

	"balise/api"
)

// Place tells whether z is a place: both parts whole, and within MaxPlace.
func Place(z complex128) bool {
	return metres(real(z)) && metres(imag(z))
}

// metres asks for the bounds first, as a part that is no number, or has no
// end, is within none.
func metres(x float64) bool {
	return x >= -api.MaxPlace && x <= api.MaxPlace && x == math.Trunc(x)
}

// Dot tells how much u and v go the same way.
func Dot(u, v complex128) float64 {
	return unsigned(real(u)*real(v) + imag(u)*imag(v))
}

// Cross tells how much v turns to the left of u.
func Cross(u, v complex128) float64 {
	return unsigned(real(u)*imag(v) - imag(u)*real(v))
}

// Square is the square of u's length.
func Square(u complex128) float64 {
	return Dot(u, u)
}

// unsigned takes the sign off a nought: noughts of products may have one,
// and what is told must not hang on it.
func unsigned(x float64) float64 {
	if x == 0 {
		return 0
	}
	return x
}

// Ahead tells whether the way from a by b goes on to c, and not back.
func Ahead(a, b, c complex128) bool {
	return Dot(b-a, c-b) > 0
}

// Turn tells whether the way from a by b to c turns to the left (1), to the
// right (-1), or to neither (0).
func Turn(a, b, c complex128) int {
	cross := Cross(b-a, c-b)
	if cross > 0 {
		return 1
	}
	if cross < 0 {
		return -1
	}
	return 0
}

// Fits tells whether a section between a and b may be length metres long:
// it may wind, but it can't be shorter than the straight way.
func Fits(a, b complex128, length int) bool {
	if a == b || length < 1 || length > api.MaxLen {
		return false
	}
	return float64(length*length) >= Square(b-a)
}
