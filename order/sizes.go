package order

import (
	"cmp"

	"caliper/api"
	"caliper/nat"
)

// sizes is how two numbers, which are no NaNs, lie without their signs.
func sizes(a, b operand) int {
	switch {
	case a.Class == api.Infinite || b.Class == api.Infinite:
		return cmp.Compare(a.Class, b.Class)
	case a.nought() || b.nought():
		return nat.Cmp(a.Coef[:], b.Coef[:])
	}
	aLeast, aBeyond := a.reach()
	bLeast, bBeyond := b.reach()
	switch {
	case aBeyond <= bLeast:
		return -1
	case bBeyond <= aLeast:
		return 1
	}
	return near(a, b)
}

// reach is two bounds of a finite number that isn't 0, in thousandths: it is at least 2 to the power of the one, and below 2 to the power of the other.
func (o operand) reach() (least, beyond int) {
	low, high := 1000*o.Exp, 1000*o.Exp
	if o.base == 10 {
		// Ten lies between 2^3.321 and 2^3.322.
		low, high = min(3321*o.Exp, 3322*o.Exp), max(3321*o.Exp, 3322*o.Exp)
	}
	size := nat.Len(o.Coef[:])
	return 1000*(size-1) + low, 1000*size + high
}

// near is sizes of two finite numbers whose reaches meet: whole numbers are made of both, by as many twos and fives as one of them lacks. As far numbers don't come here, no power is too great for layer 2: exponents of ten that lie far apart are those of far numbers.
func near(a, b operand) int {
	twos, fives := a.Exp-b.Exp, a.fives()-b.fives()
	return nat.Cmp(times(a.Coef, twos, fives), times(b.Coef, -twos, -fives))
}

// fives is how many fives a number is multiplied by, as Exp is how many twos.
func (o operand) fives() int {
	if o.base == 2 {
		return 0
	}
	return o.Exp
}

// times is a coefficient times so many twos and fives: none, where there are less than none.
func times(coef api.Bits, twos, fives int) []uint64 {
	power, _ := nat.Power(5, max(fives, 0))
	product, _ := nat.Mul(coef[:], power)
	product, _ = nat.Shl(product, max(twos, 0))
	return product
}
