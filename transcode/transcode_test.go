package transcode_test

import (
	"fmt"
	"math/big"
	"strconv"
	"strings"
	"testing"

	"caliper/api"
	"caliper/decimal"
	"caliper/transcode"
)

// exps are exponents at both bounds, about 0, where the field's two highest bits change, and with each bit of the field alone.
func (f format) exps() []int {
	greatest := f.most - f.least
	quarter := (greatest + 1) / 3
	list := []int{f.least, f.least + 1, -1, 0, 1, f.most - 1, f.most}
	for _, field := range []int{quarter - 1, quarter, quarter + 1, 2*quarter - 1, 2 * quarter, 2*quarter + 1, greatest / 2} {
		list = append(list, field+f.least)
	}
	for field := 1; field < greatest; field *= 2 {
		list = append(list, field+f.least)
	}
	return list
}

// coefs are coefficients as digits: of 0, of one digit, of every number of digits, of all with each first digit, of nines.
func (f format) coefs() []string {
	list := []string{"0"}
	for digit := 1; digit <= 9; digit++ {
		first := strconv.Itoa(digit)
		list = append(list, first, first+noughts(f.precision-1), first+nines(f.precision-1), first+drawn(f.precision-1, uint64(digit)), first+noughts(f.precision-2)+"1")
	}
	for count := 2; count <= f.precision; count++ {
		list = append(list, "1"+noughts(count-1), nines(count), drawn(count, uint64(count)), drawn(count, uint64(count)+99))
	}
	// The coefficients about those at which a plain pattern changes its shape.
	for _, edge := range []*big.Int{two(f.t), two(f.t + 1), two(f.t + 2), two(f.t + 3), new(big.Int).Mul(two(f.t), big.NewInt(9))} {
		for more := int64(-1); more <= 1; more++ {
			if n := plus(edge, more); n.Cmp(ten(f.precision)) < 0 {
				list = append(list, n.String())
			}
		}
	}
	return list
}

// P17.1, P17.2: coefficients of every kind at exponents of every kind, with both signs: canonical patterns, of which each has its own Code.
func TestP17_2_Finite(t *testing.T) {
	each(t, func(t *testing.T, f format) {
		all, seen := kept{}, map[api.Bits]bool{}
		for _, exp := range f.exps() {
			for _, digits := range f.coefs() {
				b := f.made(finite(false, digits, exp))
				f.check(t, b)
				for _, canonical := range []api.Bits{b, f.negated(b)} {
					all.add(t, f, canonical)
					seen[canonical] = true
				}
			}
		}
		if len(all) != len(seen) || len(seen) < 2000 {
			t.Errorf("%d: %d Codes of %d patterns", f.number, len(all), len(seen))
		}
	})
}

// P17.1, P17.2: every exponent of a format, of 0, of 1, of nines and of a drawn coefficient.
func TestP17_2_EveryExponent(t *testing.T) {
	each(t, func(t *testing.T, f format) {
		all := kept{}
		for exp := f.least; exp <= f.most; exp++ {
			for _, digits := range []string{"0", "1", nines(f.precision), "6" + drawn(f.precision-1, uint64(exp-f.least))} {
				b := f.made(finite(exp%2 == 0, digits, exp))
				f.check(t, b)
				all.add(t, f, b)
			}
		}
		if want := 4 * (f.most - f.least + 1); len(all) != want {
			t.Errorf("%d: %d Codes, not %d", f.number, len(all), want)
		}
	})
}

// P17.1, P17.2: all coefficients of few digits, all just below 10^P, and many between.
func TestP17_2_Coefficients(t *testing.T) {
	each(t, func(t *testing.T, f format) {
		all := kept{}
		step := new(big.Int).Quo(ten(f.precision), big.NewInt(4999))
		for n := range int64(5000) {
			exp := f.exps()[n%7]
			for _, coef := range []*big.Int{
				big.NewInt(n),
				plus(ten(f.precision), -1-n),
				new(big.Int).Mul(step, big.NewInt(n)),
			} {
				if coef.Cmp(ten(f.precision)) >= 0 {
					continue
				}
				b := f.made(api.Datum{Class: api.Finite, Exp: exp, Coef: toBits(coef)})
				f.check(t, b)
				all.add(t, f, b)
			}
		}
	})
}

// P17.2: the members of cohorts have as many Codes.
func TestP17_2_Cohorts(t *testing.T) {
	each(t, func(t *testing.T, f format) {
		all, members := kept{}, 0
		for count := 1; count <= f.precision; count++ {
			digits := drawn(count, uint64(count))[:count-1] + "3"
			for more := range f.precision - count + 1 {
				b := f.made(finite(false, digits+noughts(more), -more))
				f.check(t, b)
				all.add(t, f, b)
				members++
			}
		}
		if len(all) != members {
			t.Errorf("%d: %d Codes of %d members", f.number, len(all), members)
		}
	})
}

// P17.1: every G, with a T that follows from it.
func TestP17_1_EveryG(t *testing.T) {
	each(t, func(t *testing.T, f format) {
		twin := numbered(f.twin)
		for g := range 1 << f.g {
			b := f.pattern(fmt.Sprintf("%b%0*b%0*b", g>>1%2, f.g, g, f.t, high(uint64(g), f.t)))
			d, _ := f.meaning(b)
			codes(t, f.number, b, twin.made(d))
			codes(t, f.twin, twin.made(d), f.made(d))
		}
	})
}

// P17.1: plain coefficients from 10^P on count as 0, at every kind of exponent, and so are coded.
func TestP17_1_TooGreat(t *testing.T) {
	for _, f := range formats[:3] {
		bound := ten(f.precision)
		greatest := plus(new(big.Int).Mul(big.NewInt(10), two(f.t)), -1)
		for _, exp := range f.exps() {
			nought := numbered(f.twin).made(finite(false, "0", exp))
			for _, coef := range []*big.Int{plus(bound, -1), bound, plus(bound, 1), plus(greatest, -1), greatest} {
				lead, rest := new(big.Int).DivMod(coef, two(f.t), new(big.Int))
				b := f.pattern("0" + f.combined(exp, int(lead.Int64())) + f.rest(rest))
				code := f.check(t, b)
				if (code == nought) != (coef.Cmp(bound) >= 0) {
					t.Errorf("%d, %x: %x", f.number, b, code)
				}
			}
		}
	}
}

// P17.1: every pattern of ten bits at every place of a dense pattern, among noughts, nines and ones, in numbers and in payloads.
func TestP17_1_Declets(t *testing.T) {
	for _, f := range formats[3:] {
		t.Run(strconv.Itoa(f.number), func(t *testing.T) {
			t.Parallel()
			heads := []string{
				"0" + f.combined(0, 7),
				"1" + f.combined(f.most, 9),
				"0111110" + noughts(f.g-6),
				"1111111" + noughts(f.g-6),
			}
			around := []string{f.rest(new(big.Int)), f.rest(plus(ten(f.precision-1), -1)), strings.Repeat("1", f.t)}
			for d := range 1024 {
				for place := range f.declets {
					head := heads[(d+place)%len(heads)]
					tail := around[d%len(around)]
					f.check(t, f.pattern(head+tail[:10*place]+fmt.Sprintf("%010b", d)+tail[10*place+10:]))
				}
			}
		})
	}
}

// P17.1: the 24 declets of no number, each alone at each place, are coded as what they mean.
func TestP17_1_NotCanonical(t *testing.T) {
	tried := 0
	for text, meant := range declets {
		if meant.canonical {
			continue
		}
		tried++
		for _, f := range formats[3:] {
			twin := numbered(f.twin)
			for place := range f.declets {
				worth := new(big.Int).Mul(big.NewInt(int64(meant.n)), ten(3*place))
				tail := noughts(f.t-10*place-10) + text + noughts(10*place)
				codes(t, f.number, f.pattern("0111110"+noughts(f.g-6)+tail), twin.made(api.Datum{Class: api.NaN, Coef: toBits(worth)}))
				for lead := range 10 {
					coef := new(big.Int).Mul(big.NewInt(int64(lead)), ten(f.precision-1))
					b := f.pattern("0" + f.combined(-1, lead) + tail)
					codes(t, f.number, b, twin.made(api.Datum{Class: api.Finite, Exp: -1, Coef: toBits(coef.Add(coef, worth))}))
				}
			}
		}
	}
	if tried != 24 {
		t.Errorf("%d declets aren't canonical", tried)
	}
}

// P17.1: infinities without bits behind the five, with each bit alone, and with many, have one Code.
func TestP17_1_Infinite(t *testing.T) {
	each(t, func(t *testing.T, f format) {
		own := f.made(api.Datum{Class: api.Infinite})
		want := f.check(t, own)
		for place := range f.width - 6 {
			for _, more := range []*big.Int{two(place), plus(two(place+1), -1), high(uint64(place), f.width-6)} {
				if code := f.check(t, with(own, more)); code != want {
					t.Errorf("%d, %x: %x", f.number, with(own, more), code)
				}
			}
		}
	})
}

// P17.1, P17.2: NaNs, quiet and signalling, with payloads of every kind: they stay what they are; other bits of G mean nothing.
func TestP17_2_NaNs(t *testing.T) {
	each(t, func(t *testing.T, f format) {
		all, count := kept{}, 0
		payloads := []string{"0"}
		for digits := 1; digits < f.precision; digits++ {
			// No two are the same: they differ in the first digit, or in how many there are.
			payloads = append(payloads, nines(digits), "1"+noughts(digits-1))
			if digits > 1 {
				payloads = append(payloads, "8"+drawn(digits-1, uint64(digits)))
			}
		}
		for _, signal := range signs {
			for _, payload := range payloads {
				d := api.Datum{Class: api.NaN, Signal: signal, Coef: digitsBits(payload)}
				own := f.made(d)
				want := f.check(t, own)
				means(t, f.twin, want, d)
				for _, canonical := range []api.Bits{own, f.negated(own)} {
					all.add(t, f, canonical)
					count++
				}
				// The bits of G behind the sixth one stand from T on up.
				for place := f.t; place < f.t+f.g-6; place++ {
					if code := f.check(t, with(own, two(place))); code != want {
						t.Errorf("%d, %x: %x", f.number, with(own, two(place)), code)
					}
				}
			}
		}
		if len(all) != count {
			t.Errorf("%d: %d Codes of %d NaNs", f.number, len(all), count)
		}
	})
}

// P17.1: the greatest payload of a plain format is kept; one more, and all above, count as 0, and signal as before.
func TestP17_1_Payloads(t *testing.T) {
	for _, f := range formats[:3] {
		bound := ten(f.precision - 1)
		for _, signal := range signs {
			nought := api.Datum{Class: api.NaN, Signal: signal}
			greatest := api.Datum{Class: api.NaN, Signal: signal, Coef: toBits(plus(bound, -1))}
			twin := numbered(f.twin)
			codes(t, f.number, f.made(greatest), twin.made(greatest))
			codes(t, f.twin, twin.made(greatest), f.made(greatest))
			for _, payload := range []*big.Int{bound, plus(bound, 1), plus(two(f.t), -2), plus(two(f.t), -1)} {
				b := with(f.made(nought), payload)
				codes(t, f.number, b, twin.made(nought))
				f.check(t, b)
			}
		}
	}
}

// P17.1: each bit of a pattern alone, all below it, and all above it.
func TestP17_1_SingleBits(t *testing.T) {
	each(t, func(t *testing.T, f format) {
		f.check(t, nothing)
		for place := range f.width {
			f.check(t, toBits(two(place)))
			f.check(t, toBits(plus(two(place+1), -1)))
			f.check(t, toBits(new(big.Int).Sub(two(f.width), two(place))))
		}
	})
}

// P17.1, P17.2: many drawn patterns, of which some are canonical and some aren't, also such as begin with G's highest bits set.
func TestP17_2_Drawn(t *testing.T) {
	each(t, func(t *testing.T, f format) {
		all, classes, others := kept{}, map[int]int{}, 0
		for seed := range uint64(6000) {
			draw := high(seed+1<<20, f.width)
			// None, two or four of the bits behind the sign.
			for place := range seed % 3 * 2 {
				draw.SetBit(draw, f.width-2-int(place), 1)
			}
			b := toBits(draw)
			f.check(t, b)
			own, _ := decimal.Canonical(f.number, b)
			all.add(t, f, own)
			if own != b {
				others++
			}
			d, _, _ := decimal.Unpack(f.number, b)
			classes[d.Class]++
		}
		if others < 500 || len(all) < 2000 || classes[api.Finite] < 500 || classes[api.Infinite] < 500 || classes[api.NaN] < 500 {
			t.Errorf("%d: %d Codes, %d aren't canonical, classes %v", f.number, len(all), others, classes)
		}
	})
}

// P17.1, P17.2: many drawn data, of every number of digits.
func TestP17_2_DrawnData(t *testing.T) {
	each(t, func(t *testing.T, f format) {
		all := kept{}
		for seed := range uint64(5000) {
			exp := f.least + int(high(seed, 20).Int64())%(f.most-f.least+1)
			d := finite(seed%2 == 1, drawn(1+int(seed)%f.precision, seed), exp)
			if seed%5 == 4 {
				d = api.Datum{Class: api.NaN, Sign: seed%3 == 1, Signal: seed%2 == 1, Coef: digitsBits(drawn(1+int(seed)%(f.precision-1), seed))}
			}
			b := f.made(d)
			f.check(t, b)
			all.add(t, f, b)
		}
	})
}

// P17.2: canonical patterns that differ in one bit have unlike Codes; where the other one isn't canonical, it has its canonical pattern's.
func TestP17_2_Neighbours(t *testing.T) {
	each(t, func(t *testing.T, f format) {
		unlike := 0
		for seed := range uint64(60) {
			b, _ := decimal.Canonical(f.number, toBits(high(seed+1<<50, f.width)))
			code, _ := transcode.Code(f.number, b)
			for place := range f.width {
				near := b
				near[place/64] ^= 1 << (place % 64)
				nearCode, _ := transcode.Code(f.number, near)
				own, _ := decimal.Canonical(f.number, near)
				codes(t, f.number, own, nearCode)
				if (nearCode == code) != (own == b) {
					t.Errorf("%d: %x and %x: %x and %x", f.number, b, near, code, nearCode)
				}
				if own == near {
					unlike++
				}
			}
		}
		if unlike < 1000 {
			t.Errorf("%d: only %d neighbours are canonical", f.number, unlike)
		}
	})
}
