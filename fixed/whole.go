package fixed

import (
	"caliper/api"
	"caliper/nat"
)

// whole is a finite number without its sign as a natural times 10^exp. None has more than some 11700 digits, so that layer 2 takes all of these, and the powers of ten up to them.
func whole(d api.Datum) (natural []uint64, exp int) {
	if d.Exp < 0 {
		// A half is five tenths.
		natural, _ = nat.Mul(d.Coef[:], fives(-d.Exp))
		return natural, d.Exp
	}
	natural, _ = nat.Shl(d.Coef[:], d.Exp)
	return natural, 0
}

// fives is 5^n. Small numbers of the widest formats ask for more than layer 2 gives at once.
func fives(n int) []uint64 {
	low, _ := nat.Power(5, n/2)
	high, _ := nat.Power(5, n-n/2)
	product, _ := nat.Mul(low, high)
	return product
}

func ten(n int) []uint64 {
	power, _ := nat.Power(10, n)
	return power
}

// size is how many decimal digits a natural that isn't 0 has.
func size(natural []uint64) int {
	// The natural is at least two to this number of bits. 0.30103 is so near to the logarithm of two, for numbers of all formats, that this is never too many digits, and at most two too few.
	count := (nat.Len(natural) - 1) * 30103 / 100000
	for beyond := ten(count); nat.Cmp(beyond, natural) <= 0; count++ {
		beyond, _ = nat.Mul(beyond, []uint64{10})
	}
	return count
}
