package crossin_test

import (
	"math/big"
	"testing"

	"caliper/api"
)

// against is how coef times 10^exp holds against other times 2^n.
func against(coef *big.Int, exp int, other *big.Int, n int) int {
	left := times(coef, times(ten(max(exp, 0)), two(max(-n, 0))))
	right := times(other, times(ten(max(-exp, 0)), two(max(n, 0))))
	return left.Cmp(right)
}

// besides is the side of a binary number on which coef times 10^exp lies, held against that number, the middle to the next one, and the next one; ok is whether it lies between them at all.
func (g target) besides(low, coef *big.Int, exp int) (side int, ok bool) {
	c, n := g.reading(low)
	twice := new(big.Int).Lsh(c, 1)
	at := against(coef, exp, twice, n-1)
	if at < 0 || against(coef, exp, plus(twice, 2), n-1) >= 0 {
		return 0, false
	}
	switch against(coef, exp, plus(twice, 1), n-1) {
	case 0:
		return middle, true
	case 1:
		return above, true
	}
	if at == 0 {
		return exact, true
	}
	return below, true
}

// around fails unless a decimal number becomes what it must by the side of the binary one next to it, towards 0, on which it lies: the oracle's rounding has no part in that. It tells the side, or ok false of a number that isn't below all that overflow.
func (f source) around(t *testing.T, g target, coef *big.Int, exp int) (side int, ok bool) {
	t.Helper()
	p := g.placed(times(coef, ten(max(exp, 0))), ten(max(-exp, 0)))
	if p.exp > g.most {
		f.lies(t, g, f.finite(false, coef, exp), plus(g.infinity(), -1), above, overflow, overflow)
		return 0, false
	}
	low := g.pattern(p.coef, p.exp)
	side, ok = g.besides(low, coef, exp)
	if !ok {
		t.Fatalf("the oracle isn't at one with itself: %d e%d, %x", coef, exp, low)
	}
	flags := inexact
	if low.BitLen() < g.precision {
		flags = underflow
	}
	next := flags
	if plus(low, 1).Cmp(g.infinity()) == 0 {
		next = overflow
	}
	if side == exact {
		flags, next = 0, 0
	}
	f.lies(t, g, f.finite(false, coef, exp), low, side, flags, next)
	return side, true
}

// edges are patterns of a binary format next to which decimal numbers are tried: from 0 on, about the least one of full length, about one, the greatest ones, the last ones ahead of powers of two, and drawn ones.
func (g target) edges() []*big.Int {
	one := g.pattern(two(g.precision-1), 1-g.precision)
	list := []*big.Int{}
	for more := range int64(4) {
		list = append(list, big.NewInt(more), plus(two(g.precision-1), more-2), plus(one, more-2), plus(g.infinity(), -1-more))
	}
	for seed := range uint64(12) {
		field := among(seed, big.NewInt(1), two(g.width-g.precision))
		list = append(list, plus(field.Lsh(field, uint(g.precision-1)), -1))
		list = append(list, among(seed+100, new(big.Int), g.infinity()), among(seed+200, new(big.Int), two(g.precision-1)))
		list = append(list, plus(one, 0).Add(one, among(seed+300, new(big.Int), two(g.precision+3))))
	}
	return list
}

// nearest are decimal numbers of so many digits next to c times 2^n, not 0: the greatest one that isn't above it and those beside that. None, where it is beyond the format.
func (f source) nearest(c *big.Int, n, digits int) (coefs []*big.Int, exp int) {
	// 2^k has some 0.30103 k digits; one more or less is taken below.
	exp = int(float64(c.BitLen()+n)*0.30102999566) - digits - 2
	for against(ten(digits), exp, c, n) <= 0 {
		exp++
	}
	exp = max(exp, f.least)
	if exp > f.most {
		return nil, 0
	}
	num, den := times(c, two(max(n, 0))), two(max(-n, 0))
	floor := num.Mul(num, ten(max(-exp, 0))).Quo(num, times(den, ten(max(exp, 0))))
	for more := int64(-1); more <= 2; more++ {
		if coef := plus(floor, more); coef.Sign() > 0 && coef.Cmp(ten(f.precision)) < 0 {
			coefs = append(coefs, coef)
		}
	}
	return coefs, exp
}

// P18.1: decimal numbers next to binary ones, next to the middles between these, and next to the next ones, of all digits and of fewer, in every direction.
func TestP18_1_Between(t *testing.T) {
	each(t, func(t *testing.T, f source) {
		for _, g := range targets {
			sides := map[int]int{}
			for _, low := range g.edges() {
				c, n := g.reading(low)
				twice := new(big.Int).Lsh(c, 1)
				for half := range int64(3) {
					at := plus(twice, half)
					if at.Sign() == 0 {
						continue
					}
					for _, digits := range []int{f.precision, f.precision - 1, (f.precision + 1) / 2} {
						coefs, exp := f.nearest(at, n-1, digits)
						for _, coef := range coefs {
							if side, ok := f.around(t, g, coef, exp); ok {
								sides[side]++
							}
						}
					}
				}
			}
			if sides[below] < 20 || sides[above] < 20 {
				t.Errorf("%d to %d: %v", f.number, g.number, sides)
			}
		}
	})
}

// halfway are decimal numbers, coef times 10^exp, that lie just in the middle of two binary ones of full length, with every exponent with which there are such.
func (f source) halfway(g target) (coefs []*big.Int, exps []int) {
	for exp := max(f.least, -60); exp <= min(f.most, 110); exp++ {
		// An odd number of P + 1 bits is the fives of the power of ten, if that is above 1, times an odd number, and so many twos are left.
		fives := power(5, max(exp, 0))
		least := new(big.Int).Quo(two(g.precision), fives)
		bound := new(big.Int).Quo(two(g.precision+1), fives)
		for seed := range uint64(3) {
			if least.Cmp(bound) == 0 {
				continue
			}
			odd := among(seed+uint64(exp+1000)*8, least, bound)
			odd.SetBit(odd, 0, 1)
			if times(odd, fives).BitLen() != g.precision+1 {
				continue
			}
			more := int(seed) * 5
			coef := times(odd, power(5, max(-exp, 0)))
			coef.Lsh(coef, uint(more))
			// The two that it lies between have one bit less, and an exponent that is one more.
			q := exp + more + 1
			if coef.Cmp(ten(f.precision)) < 0 && q >= g.least && q <= g.most {
				coefs, exps = append(coefs, coef), append(exps, exp)
			}
		}
	}
	return coefs, exps
}

// P18.1: numbers that lie just in the middle of two, and numbers as little beside these as the format has them.
func TestP18_1_Middles(t *testing.T) {
	each(t, func(t *testing.T, f source) {
		for _, g := range targets {
			coefs, exps := f.halfway(g)
			for i, coef := range coefs {
				exp := exps[i]
				if side, ok := f.around(t, g, coef, exp); !ok || side != middle {
					t.Errorf("%d to %d: %d e%d isn't a middle", f.number, g.number, coef, exp)
				}
				// With as many digits as there is room for, the next numbers are the nearest.
				for longer := times(coef, big.NewInt(10)); longer.Cmp(ten(f.precision)) < 0 && exp > f.least; longer = times(coef, big.NewInt(10)) {
					coef, exp = longer, exp-1
				}
				for more := int64(-1); more <= 1; more++ {
					if beside := plus(coef, more); beside.Cmp(ten(f.precision)) < 0 {
						f.around(t, g, beside, exp)
					}
				}
			}
			// The middles between Octo's numbers have more bits than 7 digits and the fives of 10^90.
			if none := f.width == 32 && g.number == api.Octo; none != (len(coefs) == 0) {
				t.Errorf("%d to %d: %d middles", f.number, g.number, len(coefs))
			}
		}
	})
}

// P18.1: the middles below the numbers of full length, of which only Half has any that are decimal numbers of a format, and that of 34 digits.
func TestP18_1_SmallMiddles(t *testing.T) {
	half := targets[0]
	for _, f := range []source{numbered(9), numbered(12)} {
		for c := range int64(1 << (half.precision - 1)) {
			// c and a half times 2^-24 is 2 c + 1 times 5^25 times 10^-25.
			coef := times(big.NewInt(2*c+1), power(5, 25))
			if side, ok := f.around(t, half, coef, -25); !ok || side != middle {
				t.Errorf("%d isn't a middle", coef)
			}
			for more := int64(-1); more <= 1; more += 2 {
				f.around(t, half, plus(coef, more), -25)
			}
		}
	}
}

// P18.1: numbers that the binary format has come out as they are, in every direction, without flags.
func TestP18_1_Exact(t *testing.T) {
	each(t, func(t *testing.T, f source) {
		for _, g := range targets {
			tried := 0
			for exp := max(f.least, -45); exp <= min(f.most, 103); exp++ {
				fives := power(5, max(exp, 0))
				bound := new(big.Int).Quo(plus(two(g.precision), -1), fives)
				for seed := range uint64(4) {
					whole := among(seed+uint64(exp+1000)*4, new(big.Int), plus(bound, 1))
					// Some with few bits.
					whole.Rsh(whole, uint(seed)*uint(whole.BitLen())/4)
					coef := times(whole, power(5, max(-exp, 0)))
					value := times(whole, fives)
					pattern, ok := g.holding(value, exp)
					if !ok || whole.Sign() == 0 || coef.Cmp(ten(f.precision)) >= 0 {
						continue
					}
					tried++
					for _, sign := range signs {
						always(t, f.number, g.number, f.finite(sign, coef, exp), g.signed(pattern, sign), 0)
					}
				}
			}
			if tried < 8 {
				t.Errorf("%d to %d: only %d numbers", f.number, g.number, tried)
			}
		}
	})
}

// holding is the pattern of coef times 2^exp, though perhaps with another coef; ok is whether the format has that number.
func (g target) holding(coef *big.Int, exp int) (pattern *big.Int, ok bool) {
	q := max(g.least, coef.BitLen()+exp-g.precision)
	if q > g.most {
		return nil, false
	}
	if q <= exp {
		return g.pattern(new(big.Int).Lsh(coef, uint(exp-q)), q), true
	}
	whole := new(big.Int).Rsh(coef, uint(q-exp))
	return g.pattern(whole, q), new(big.Int).Lsh(whole, uint(q-exp)).Cmp(coef) == 0
}
