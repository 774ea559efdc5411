package order_test

import (
	"math/big"
	"testing"

	"caliper/api"
)

// some are samples of a format's edges, few enough that those of each two formats can be held against one another.
func (f format) some(step int) []sample {
	all, list := f.edges(), []api.Bits(nil)
	for i := 0; i < len(all); i += step {
		list = append(list, all[i])
	}
	// The last ones are the greatest numbers, or those about a power of two.
	return f.sampled(append(list, all[len(all)-4:]...))
}

// P20.1: patterns at the edges of each two formats: of all classes, with the least exponents and the greatest ones.
func TestP20_1_MixedEdges(t *testing.T) {
	each(t, formats, func(t *testing.T, f format) {
		for _, g := range formats[f.number-1:] {
			others := g.some(3)
			for _, x := range f.some(3) {
				for _, y := range others {
					lie(t, x, y)
				}
			}
		}
	})
}

// fraction is a number, not 0, without its sign.
func (m meaning) fraction() (num, den *big.Int) {
	exp := m.top - len(m.digits)
	return times(parsed(m.digits, 10), ten(max(exp, 0))), ten(max(-exp, 0))
}

// around are patterns without sign of a format's numbers next to what a sample is: the greatest one that isn't above it (that of all, if it is greater still), those beside that one, and of a decimal format all members of its cohort.
func (f format) around(m meaning) []api.Bits {
	if f.base == 2 {
		low := f.below(m.fraction())
		list := []api.Bits{toBits(low), toBits(plus(low, 1))}
		if low.Sign() > 0 {
			list = append(list, toBits(plus(low, -1)))
		}
		return list
	}
	exp := max(f.least, m.top-f.precision)
	if exp > f.most {
		return []api.Bits{f.finite(false, plus(ten(f.precision), -1), f.most), f.infinity(false)}
	}
	coef := parsed("0"+(m.digits + noughts(max(0, m.top-exp-len(m.digits))))[:max(0, m.top-exp)], 10)
	var list []api.Bits
	for more := int64(-1); more <= 1; more++ {
		if n := plus(coef, more); n.Sign() >= 0 && n.Cmp(ten(f.precision)) < 0 {
			list = append(list, f.finite(false, n, exp))
		}
	}
	if coef.Sign() > 0 {
		list = append(list, f.members(coef, exp)...)
	}
	return list
}

// below is the pattern of a binary format's greatest number that isn't above num / den.
func (f format) below(num, den *big.Int) *big.Int {
	exp := max(f.least, num.BitLen()-den.BitLen()-f.precision)
	coef := quotient(num, den, exp)
	if coef.BitLen() > f.precision {
		exp++
		coef = quotient(num, den, exp)
	}
	if exp > f.most {
		return plus(f.top(), -1)
	}
	return f.laid(coef, exp)
}

// quotient is the whole part of num / den / 2^n.
func quotient(num, den *big.Int, n int) *big.Int {
	num, den = new(big.Int).Lsh(num, uint(max(-n, 0))), new(big.Int).Lsh(den, uint(max(n, 0)))
	return num.Quo(num, den)
}

// positive are samples of a format's finite numbers above 0, of all edges and drawn ones.
func (f format) positive(step, more int) []sample {
	sizes, list := f.sizes(), []api.Bits(nil)
	for i := 0; i < len(sizes); i += step {
		list = append(list, sizes[i])
	}
	for seed := range uint64(more) {
		b := f.drawn(seed*4 + 1<<22)
		if toBig(b).Bit(f.width-1) == 1 {
			b = f.negated(b)
		}
		list = append(list, b)
	}
	var samples []sample
	for _, x := range f.sampled(list) {
		if x.m.class == api.Finite && x.m.side() == 1 {
			samples = append(samples, x)
		}
	}
	return samples
}

// P20.1: numbers of each format against those of each other one, and of itself, that lie just beside them, or are alike.
func TestP20_1_Beside(t *testing.T) {
	each(t, formats, func(t *testing.T, f format) {
		for _, g := range formats {
			sides := map[int]int{}
			for _, x := range f.positive(2, 30) {
				for _, y := range g.sampled(g.around(x.m)) {
					lie(t, x, y)
					side, _ := byValue(x.m, y.m)
					sides[side]++
					x.b, y.b = f.negated(x.b), g.negated(y.b)
					x.m.sign, y.m.sign = true, true
					lie(t, x, y)
					x.b, x.m.sign = f.negated(x.b), false
				}
			}
			if sides[-1] < 20 || sides[1] < 20 || sides[0] < 2 {
				t.Errorf("%d and %d: %v", f.number, g.number, sides)
			}
		}
	})
}

// alike is a number that all formats have.
type alike struct {
	digits string
	exp    int
}

// P20.1: numbers that all formats have are alike in each two, as every member of their cohorts, and with the other sign they lie on the other side.
func TestP20_1_Alike(t *testing.T) {
	t.Parallel()
	for _, n := range []alike{{"1", 0}, {"2", 0}, {"3", 0}, {"5", 0}, {"10", 0}, {"100", 0}, {"96", 0}, {"127", 0}, {"128", 0}, {"255", 0}, {"65024", 0}, {"32768", 0}, {"5", -1}, {"25", -2}, {"75", -2}, {"15", -1}, {"125", -3}, {"996", 0}, {"1953125", -9}, {"9765625", -10}} {
		m := placed(false, parsed(n.digits, 10), n.exp)
		var list []sample
		for _, f := range formats {
			if f.base == 2 {
				list = append(list, f.sampled([]api.Bits{toBits(f.below(m.fraction()))})...)
			} else {
				list = append(list, f.sampled(f.members(parsed(n.digits, 10), n.exp))...)
			}
		}
		for _, x := range list {
			for _, y := range list {
				mixes(t, x.f.number, x.b, y.f.number, y.b, 0, true)
				mixes(t, x.f.number, x.f.negated(x.b), y.f.number, y.f.negated(y.b), 0, true)
				mixes(t, x.f.number, x.f.negated(x.b), y.f.number, y.b, -1, true)
				mixes(t, x.f.number, x.b, y.f.number, y.f.negated(y.b), 1, true)
			}
		}
	}
}

// P20.1: noughts of each two formats are alike, whatever their signs and exponents, and lie between the least numbers.
func TestP20_1_MixedNoughts(t *testing.T) {
	t.Parallel()
	type pair struct {
		f             format
		nought, least api.Bits
	}
	var list []pair
	for _, f := range formats {
		if f.base == 2 {
			list = append(list, pair{f, nothing, api.Bits{1}})
			continue
		}
		for _, exp := range f.exps() {
			list = append(list, pair{f, f.digits(false, "0", exp), f.digits(false, "1", f.least)})
		}
	}
	for _, x := range list {
		for _, y := range list {
			f, g := x.f.number, y.f.number
			minus, negative := x.f.negated(x.nought), y.f.negated(y.nought)
			mixes(t, f, x.nought, g, y.nought, 0, true)
			mixes(t, f, minus, g, y.nought, 0, true)
			mixes(t, f, x.nought, g, negative, 0, true)
			mixes(t, f, minus, g, negative, 0, true)
			mixes(t, f, x.nought, g, y.least, -1, true)
			mixes(t, f, minus, g, y.least, -1, true)
			mixes(t, f, x.nought, g, y.f.negated(y.least), 1, true)
			mixes(t, g, y.f.negated(y.least), f, minus, -1, true)
		}
	}
}

// P20.1: infinities and NaNs of each two formats, canonical and not: infinities are alike, beyond the greatest numbers; of NaNs there is nothing to say.
func TestP20_1_MixedSpecial(t *testing.T) {
	t.Parallel()
	for _, f := range formats {
		for _, g := range formats {
			x, y := f.special(), g.special()
			greatest := g.around(meaning{class: api.Finite, digits: "1", top: 1 << 20})[0]
			for _, a := range x.infinities {
				mixes(t, f.number, a, g.number, greatest, 1, true)
				mixes(t, g.number, g.negated(greatest), f.number, f.negated(a), 1, true)
				mixes(t, g.number, greatest, f.number, f.negated(a), 1, true)
				for _, b := range y.infinities {
					mixes(t, f.number, a, g.number, b, 0, true)
					mixes(t, f.number, f.negated(a), g.number, g.negated(b), 0, true)
					mixes(t, f.number, f.negated(a), g.number, b, -1, true)
				}
			}
			for _, a := range x.nans {
				for _, b := range append(append(y.nans, y.infinities...), greatest, nothing, api.Bits{1}) {
					mixes(t, f.number, a, g.number, b, 0, false)
					mixes(t, g.number, b, f.number, f.negated(a), 0, false)
				}
			}
		}
	}
}

// specials are infinities without sign, and NaNs.
type specials struct{ infinities, nans []api.Bits }

func (f format) special() specials {
	all := specials{[]api.Bits{f.infinity(false)}, f.nans()[:12]}
	if f.base == 10 {
		idle := plus(two(f.width-6), -1)
		all.infinities = append(all.infinities, with(f.infinity(false), idle), with(f.infinity(false), big.NewInt(1)))
		all.nans = append(all.nans, with(f.infinity(false), two(f.width-6)), with(f.infinity(true), plus(two(f.width-5), -1)))
	}
	return all
}

// P20.1: drawn patterns of each two formats, and decimal numbers drawn next to drawn binary ones' size.
func TestP20_1_MixedDrawn(t *testing.T) {
	each(t, formats, func(t *testing.T, f format) {
		for _, g := range formats[f.number-1:] {
			var x, y []api.Bits
			for seed := range uint64(60) {
				x, y = append(x, f.drawn(seed+1<<23)), append(y, g.drawn(seed*3+1<<24))
			}
			others := g.sampled(y)
			for _, a := range f.sampled(x) {
				for _, b := range others {
					lie(t, a, b)
				}
			}
		}
	})
}
