package order_test

import (
	"math/big"
	"testing"

	"caliper/api"
)

// ordered fails unless patterns without sign, that are of one cohort, are alike by value and stand one below the other in the order of data: the other way round with the sign.
func (f format) ordered(t *testing.T, list []api.Bits, reach int) {
	t.Helper()
	for i, a := range list {
		for j := i + 1; j < min(len(list), i+1+reach); j++ {
			b := list[j]
			compares(t, f.number, a, b, 0, true)
			compares(t, f.number, f.negated(b), f.negated(a), 0, true)
			totals(t, f.number, a, b, -1)
			totals(t, f.number, b, a, 1)
			totals(t, f.number, f.negated(a), f.negated(b), 1)
			totals(t, f.number, f.negated(b), f.negated(a), -1)
			totals(t, f.number, f.negated(a), b, -1)
			totals(t, f.number, b, f.negated(a), 1)
		}
	}
}

// P20.1: members of cohorts of every length, with exponents of every kind: the exponent decides, and the number itself ahead of it.
func TestP20_1_Cohorts(t *testing.T) {
	each(t, decimals, func(t *testing.T, f format) {
		longest := 0
		for count := 1; count <= f.precision; count++ {
			for i, exp := range f.exps() {
				coef := among(uint64(count*100+i), ten(count-1), ten(count))
				list := f.members(coef, exp)
				f.ordered(t, list, 3+count)
				longest = max(longest, len(list))
				f.beyond(t, coef, exp, list)
			}
		}
		if longest != f.precision {
			t.Errorf("%d: no cohort has more than %d members", f.number, longest)
		}
	})
}

// beyond fails unless members of a cohort lie above all those of the one with a coefficient less by one, and below all those of the one with a greater one.
func (f format) beyond(t *testing.T, coef *big.Int, exp int, list []api.Bits) {
	t.Helper()
	for _, more := range []int64{-1, 1} {
		other := plus(coef, more)
		if other.Sign() == 0 || other.Cmp(ten(f.precision)) >= 0 {
			continue
		}
		others := f.members(other, exp)
		for i, b := range others {
			for _, a := range []api.Bits{list[0], list[i%len(list)], list[len(list)-1]} {
				compares(t, f.number, b, a, int(more), true)
				totals(t, f.number, b, a, int(more))
				totals(t, f.number, f.negated(b), f.negated(a), -int(more))
			}
		}
	}
}

// P20.1: noughts of all exponents.
func TestP20_1_Noughts(t *testing.T) {
	each(t, decimals, func(t *testing.T, f format) {
		var list []api.Bits
		for exp := f.least; exp <= f.most; exp++ {
			list = append(list, f.digits(false, "0", exp))
		}
		f.ordered(t, list, 2)
		var far []api.Bits
		for i := 0; i < len(list)-1; i += 1 + len(list)/60 {
			far = append(far, list[i])
		}
		f.ordered(t, append(far, list[len(list)-1]), len(far))
		// Even the nought with the greatest exponent lies below the least number.
		least := f.digits(false, "1", f.least)
		for _, b := range []api.Bits{list[0], list[len(list)/2], list[len(list)-1]} {
			totals(t, f.number, b, least, -1)
			totals(t, f.number, f.negated(b), f.negated(least), 1)
			compares(t, f.number, b, f.negated(least), 1, true)
			compares(t, f.number, f.negated(b), least, -1, true)
		}
	})
}

// P20.1: patterns that are unlike and mean the same have 0 in the order of data, and lie the same way to all others.
func TestP20_1_Strange(t *testing.T) {
	each(t, decimals, func(t *testing.T, f format) {
		edges := f.sampled(f.edges())
		for i, pair := range f.strange() {
			own, other := pair[0], pair[1]
			if own == other {
				t.Fatalf("%d, %x: not strange", f.number, own)
			}
			totals(t, f.number, own, other, 0)
			totals(t, f.number, other, own, 0)
			both := f.sampled([]api.Bits{own, other})
			apart(t, both[0], both[1])
			for j := i % 11; j < len(edges); j += 11 {
				apart(t, both[1], edges[j])
			}
		}
	})
}

// P20.1: every declet of no number means what its number's does, at every place, in coefficients and payloads, whatever the sign.
func TestP20_1_Declets(t *testing.T) {
	each(t, decimals[3:], func(t *testing.T, f format) {
		for _, other := range others {
			own := parsed(written(declets[other]), 2)
			for place := 0; place < f.t; place += 10 {
				moved, strange := new(big.Int).Lsh(own, uint(place)), new(big.Int).Lsh(parsed(other, 2), uint(place))
				for _, head := range []api.Bits{f.digits(false, "0", 0), f.digits(true, "0", f.most), f.nan(false, true, new(big.Int)), f.nan(true, false, new(big.Int))} {
					totals(t, f.number, with(head, moved), with(head, strange), 0)
				}
				above := f.digits(false, "8"+noughts(f.precision-1), 0)
				compares(t, f.number, with(above, strange), with(above, moved), 0, true)
				compares(t, f.number, with(above, strange), above, 1, true)
			}
		}
	})
}
