// Package choice says which of two neighbours a direction of rounding takes, for every layer that rounds.
package choice

import (
	"caliper/api"
	"caliper/nat"
)

// Known says whether the number is a direction.
func Known(direction int) bool {
	return direction >= api.Even && direction <= api.Down
}

// Infinite says whether a number of that sign that overflows becomes infinite: if not, it becomes the greatest finite one.
func Infinite(direction int, sign bool) bool {
	switch direction {
	case api.Even, api.Away:
		return true
	case api.Up:
		return !sign
	case api.Down:
		return sign
	}
	return false
}

// Farther says whether the neighbour that lies farther from 0 is taken of a number of that sign. The number lies rest / whole, below 1, of the way from its nearer neighbour to the farther one; odd is whether the nearer one is odd.
func Farther(direction int, sign, odd bool, rest, whole []uint64) bool {
	if nat.Len(rest) == 0 {
		return false
	}
	half := nat.Cmp(nat.Add(rest, rest), whole)
	switch direction {
	case api.Even:
		return half > 0 || half == 0 && odd
	case api.Away:
		return half >= 0
	}
	// Towards 0, or towards one infinity: here the number goes where it would go if it overflowed.
	return Infinite(direction, sign)
}
