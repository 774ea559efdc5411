// Package choice says which of two neighbours a direction of rounding takes, and which flags go with that, for every layer that rounds.
package choice

import (
	"caliper/api"
	"caliper/nat"
)

// Known says whether the number is a direction.
func Known(direction int) bool {
	return direction >= api.Even && direction <= api.Down
}

// Infinite says whether a number of that sign that overflows becomes infinite: if not, it becomes the greatest finite one.
func Infinite(direction int, sign bool) bool {
	switch direction {
	case api.Even, api.Away:
		return true
	case api.Up:
		return !sign
	case api.Down:
		return sign
	}
	return false
}

// Farther says whether the neighbour that lies farther from 0 is taken of a number of that sign. The number lies rest / whole, below 1, of the way from its nearer neighbour to the farther one; odd is whether the nearer one is odd.
func Farther(direction int, sign, odd bool, rest, whole []uint64) bool {
	if nat.Len(rest) == 0 {
		return false
	}
	half := nat.Cmp(nat.Add(rest, rest), whole)
	switch direction {
	case api.Even:
		return half > 0 || half == 0 && odd
	case api.Away:
		return half >= 0
	}
	// Towards 0, or towards one infinity: here the number goes where it would go if it overflowed.
	return Infinite(direction, sign)
}

// Whole is num / den, of that sign, rounded to a whole number, and whether it is that number. Neither is too long for layer 2, and den isn't 0.
func Whole(direction int, sign bool, num, den []uint64) (whole []uint64, exact bool) {
	whole, rest, _ := nat.Div(num, den)
	odd := len(whole) > 0 && whole[0]&1 == 1
	if Farther(direction, sign, odd, rest, den) {
		whole = nat.Add(whole, []uint64{1})
	}
	return whole, nat.Len(rest) == 0
}

// Flags is the flags of a rounded number that doesn't overflow. It is exact if it is the number that was rounded; small is whether that one lies below all numbers of a format that have its whole precision.
func Flags(exact, small bool) int {
	switch {
	case exact:
		return 0
	case small:
		return api.Underflow + api.Inexact
	}
	return api.Inexact
}
