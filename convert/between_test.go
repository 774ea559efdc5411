package convert_test

import (
	"math/big"
	"slices"
	"testing"

	"caliper/api"
)

// below is the greatest number without sign of a format that isn't above something, as a coefficient and an exponent; over is whether it is above all of them.
func (f format) below(m meaning) (coef *big.Int, exp int, over bool) {
	s := f.spot(m)
	return s.low, s.exp, s.exp > f.most
}

// step is the number so many steps, -1 or 1, from a coefficient and an exponent; ok is whether there is one that isn't 0.
func (f format) step(coef *big.Int, exp int, way int64) (*big.Int, int, bool) {
	coef = plus(coef, way)
	switch {
	case coef.Cmp(f.normal()) < 0 && exp > f.least:
		// The numbers of one digit more lie closer.
		coef, exp = plus(times(plus(coef, 1), big.NewInt(int64(f.base))), -1), exp-1
	case coef.Cmp(f.full()) > 0:
		coef, exp = f.normal(), exp+1
	}
	return coef, exp, coef.Sign() > 0 && exp <= f.most
}

// beside are the patterns without sign of the numbers of a format next to a value, not 0: the greatest one that isn't above it, the one below that, and two above.
func (f format) beside(m meaning) []api.Bits {
	coef, exp, over := f.below(m)
	if over {
		return nil
	}
	var list []api.Bits
	if c, e, ok := f.step(coef, exp, -1); ok {
		list = append(list, f.finite(false, c, e))
	}
	for range 3 {
		if coef.Sign() > 0 {
			list = append(list, f.finite(false, coef, exp))
		}
		var ok bool
		if coef, exp, ok = f.step(coef, exp, 1); !ok {
			break
		}
	}
	return list
}

// value is coef times a format's base^exp.
func (g format) value(coef *big.Int, exp int) meaning {
	return meaning{class: api.Finite, coef: coef, base: g.base, exp: exp}
}

// middle is the value in the middle of coef times a format's base^exp and the next one.
func (g format) middle(coef *big.Int, exp int) meaning {
	if g.base == 2 {
		return g.value(plus(times(coef, big.NewInt(2)), 1), exp-1)
	}
	return g.value(plus(times(coef, big.NewInt(10)), 5), exp-1)
}

// place is a number, coef times a format's base^exp.
type place struct {
	coef *big.Int
	exp  int
}

// places are numbers of a format next to which others are tried: from 0 on, about the least one of full length, about one, the greatest ones, the last ones ahead of powers of the base, and drawn ones.
func (g format) places() []place {
	var list []place
	for more := range int64(3) {
		list = append(list, place{big.NewInt(more), g.least}, place{plus(g.normal(), -more), g.least}, place{plus(g.full(), -more), g.most})
		list = append(list, place{plus(g.full(), -more), -g.precision}, place{plus(g.normal(), more), 1 - g.precision})
	}
	for seed := range uint64(8) {
		exp := within(seed, g.least, g.most-1)
		list = append(list, place{g.full(), exp}, place{g.normal(), exp + 1}, place{among(seed, g.normal(), g.full()), exp})
		list = append(list, place{among(seed+100, g.normal(), g.full()), within(seed+100, -20, 20) - g.precision}, place{among(seed+200, big.NewInt(1), g.normal()), g.least})
	}
	return list
}

// P22.1: numbers of one format next to those of another, next to the middles between these, and next to the next ones, in every direction: those too that go up to a power of the base, to the least number, and beyond the greatest one.
func TestP22_1_Between(t *testing.T) {
	each(t, formats, func(t *testing.T, f format) {
		for _, g := range formats {
			tried := 0
			for _, at := range g.places() {
				values := []meaning{g.middle(at.coef, at.exp)}
				if at.coef.Sign() > 0 {
					values = append(values, g.value(at.coef, at.exp))
				}
				for _, m := range values {
					for _, b := range f.beside(m) {
						tried++
						f.into(t, g, b)
					}
				}
			}
			if tried < 50 {
				t.Errorf("%d to %d: only %d numbers", f.number, g.number, tried)
			}
		}
	})
}

// holding is the pattern without sign of just that value, if the format has it.
func (f format) holding(m meaning) (api.Bits, bool) {
	s := f.spot(m)
	if !s.exact || s.exp > f.most {
		return nothing, false
	}
	return f.finite(false, s.low, s.exp), true
}

// halfway are middles of a format that are numbers of the other one too: twice such a middle is an odd number, times fives, times twos. The last one is the middle above the greatest number.
func (g format) halfway(f format) []place {
	var list []place
	exps := slices.Repeat([]int{g.least}, 10)
	for exp := max(g.least, -70); exp <= min(g.most, 110); exp++ {
		exps = append(exps, exp)
		if f.width == 16 {
			// These have few such numbers.
			exps = append(exps, exp, exp, exp, exp, exp)
		}
	}
	for i, exp := range exps {
		for _, fives := range []int{0, 1, 3, g.precision / 3, -exp, exp, exp - 1, 1 - exp} {
			if fives < 0 || fives > 110 {
				continue
			}
			if at, ok := g.odd(f, exp, power(5, fives), uint64(i*128+fives)); ok {
				list = append(list, at)
			}
		}
	}
	if _, ok := f.holding(g.middle(g.full(), g.most)); ok {
		list = append(list, place{g.full(), g.most})
	}
	return list
}

// odd is a number of full length, or a lesser one at the least exponent, for which the middle to the next one is an odd multiple of some fives, and a number of the other format.
func (g format) odd(f format, exp int, fives *big.Int, seed uint64) (place, bool) {
	base := big.NewInt(int64(g.base))
	low, bound := times(g.normal(), base), times(g.full(), base)
	if exp == g.least {
		// Of all sizes.
		low = big.NewInt(1)
		bound.Rsh(bound, uint(within(seed, 0, bound.BitLen()-4)))
	}
	low, bound = low.Quo(low, fives), bound.Quo(bound, fives)
	if low.Cmp(bound) >= 0 {
		return place{}, false
	}
	odd := among(seed, low, bound)
	twice := times(odd.SetBit(odd, 0, 1), fives)
	// The last digit of it is half of the base: a five, or a one.
	coef, last := new(big.Int).QuoRem(twice, base, new(big.Int))
	if last.Int64() != int64(g.base/2) || coef.Cmp(g.full()) > 0 || exp > g.least && coef.Cmp(g.normal()) < 0 {
		return place{}, false
	}
	_, ok := f.holding(g.middle(coef, exp))
	return place{coef, exp}, ok
}

// finer says whether some middles of a format are numbers of the other one: not of a format that holds the other, and there are two more that have none. No number of Half has 35 digits; and the middles between Octo's numbers have more bits than 7 digits and the fives of 10^90.
func finer(f, g format) bool {
	if f.base == g.base && f.precision <= g.precision && f.least >= g.least {
		return false
	}
	return !(f.number == api.Half && g.width == 128 && g.base == 10) && !(f.width == 32 && f.base == 10 && g.number == api.Octo)
}

// P22.1: numbers that lie just in the middle of two, above an even one and above an odd one, and those beside them.
func TestP22_1_Middles(t *testing.T) {
	each(t, formats, func(t *testing.T, f format) {
		for _, g := range formats {
			odd, even := 0, 0
			for i, at := range g.halfway(f) {
				m := g.middle(at.coef, at.exp)
				if g.spot(m).half != 0 || g.spot(m).low.Cmp(at.coef) != 0 {
					t.Fatalf("the oracle isn't at one with itself: %d e%d of %d", at.coef, at.exp, g.number)
				}
				b, _ := f.holding(m)
				f.lies(t, g, b, at)
				if i%4 == 0 {
					for _, b := range f.beside(m) {
						f.into(t, g, b)
					}
				}
				if at.coef.Bit(0) == 1 {
					odd++
				} else {
					even++
				}
			}
			if some := finer(f, g); some != (odd > 0) || some != (even > 0) {
				t.Errorf("%d to %d: %d middles above odd numbers, %d above even ones", f.number, g.number, odd, even)
			}
		}
	})
}

// lies fails unless a pattern whose number is the middle above a place goes there, or to the next one, without the oracle's rounding.
func (f format) lies(t *testing.T, g format, b api.Bits, at place) {
	t.Helper()
	coef, exp, ok := g.step(at.coef, at.exp, 1)
	flags := inexact
	if at.coef.Cmp(g.normal()) < 0 {
		flags = underflow
	}
	for _, sign := range signs {
		low, next := g.finite(sign, at.coef, at.exp), g.infinity(sign)
		nextFlags := overflow
		if ok {
			next, nextFlags = g.finite(sign, coef, exp), flags
		}
		b, even, evenFlags, up, down := b, low, flags, next, low
		upFlags, downFlags := nextFlags, flags
		if at.coef.Bit(0) == 1 {
			even, evenFlags = next, nextFlags
		}
		if sign {
			b, up, down, upFlags, downFlags = f.negated(b), low, next, flags, nextFlags
		}
		converts(t, f.number, g.number, api.Even, b, even, evenFlags)
		converts(t, f.number, g.number, api.Away, b, next, nextFlags)
		converts(t, f.number, g.number, api.Zero, b, low, flags)
		converts(t, f.number, g.number, api.Up, b, up, upFlags)
		converts(t, f.number, g.number, api.Down, b, down, downFlags)
	}
}
