package crossout_test

import (
	"math/big"
	"strconv"
	"strings"
	"testing"

	"caliper/api"
	"caliper/crossin"
	"caliper/crossout"
	"caliper/dectext"
	"caliper/fixed"
	"caliper/grammar"
	"caliper/transcode"
)

// some are patterns without sign of every kind: edges, numbers of few bits, of any size, about one, and such as aren't normal, and NaNs.
func (f source) some(count uint64) []*big.Int {
	list := f.edges()
	for seed := range count {
		few, _ := f.holding(drawn(seed+1<<20, big.NewInt(64)), int(scattered(seed)%20)-10)
		one := f.pattern(two(f.precision-1), 1-f.precision)
		list = append(list, few, one.Add(one, drawn(seed+1<<21, two(f.precision+3))))
		list = append(list, drawn(seed+1<<22, f.infinity()), drawn(seed+1<<23, two(f.precision-1)))
		list = append(list, f.nan(drawn(seed+1<<24, two(1+int(seed)%(f.precision-2))), seed%2 == 1))
	}
	return list
}

// P19.1: into a format and into its twin a number comes to twins, with the same flags.
func TestP19_1_Twins(t *testing.T) {
	each(t, func(t *testing.T, f source) {
		for n, pattern := range f.some(100) {
			for _, g := range targets[:3] {
				for _, direction := range directions {
					b := f.signed(pattern, (n+direction)%2 == 1)
					plain, flags, errno := crossout.Convert(f.number, g.number, direction, b)
					twin, wrong := transcode.Code(g.number, plain)
					if errno != api.OK || wrong != api.OK {
						t.Errorf("Convert(%d, %d, %d, %x): %x %d %d", f.number, g.number, direction, b, plain, errno, wrong)
					}
					converts(t, f.number, g.twin, direction, b, twin, flags)
				}
			}
		}
	})
}

// P19.1: with the other sign Up is Down, and all else is the same.
func TestP19_1_Signs(t *testing.T) {
	mirrored := []int{api.Even, api.Away, api.Zero, api.Down, api.Up}
	each(t, func(t *testing.T, f source) {
		for _, pattern := range f.some(60) {
			for _, g := range targets {
				for _, direction := range directions {
					with, flags, errno := crossout.Convert(f.number, g.number, direction, f.signed(pattern, true))
					if toBig(with).Bit(g.width-1) != 1 || errno != api.OK {
						t.Errorf("Convert(%d, %d, %d, -%x): %x %d", f.number, g.number, direction, pattern, with, errno)
					}
					without := toBits(new(big.Int).Xor(toBig(with), two(g.width-1)))
					converts(t, f.number, g.number, mirrored[direction], f.signed(pattern, false), without, flags)
				}
			}
		}
	})
}

// P19.1: a number comes to what layer 16 makes of all its digits, in every direction. With noughts behind it a whole number's exponent is 0, and then layer 16 wants the same member.
func TestP19_1_Texts(t *testing.T) {
	each(t, func(t *testing.T, f source) {
		tried := 0
		for n, pattern := range f.some(60) {
			p := grammar.Parts{Class: api.Finite, Sign: n%2 == 1}
			b := f.signed(pattern, p.Sign)
			digits, exp, errno := fixed.Exact(f.number, b)
			if errno != api.OK || len(digits)+max(exp, 0) > api.MostText-20 {
				continue
			}
			tried++
			p.Digits, p.Exp = digits+strings.Repeat("0", max(exp, 0)), min(exp, 0)
			for _, g := range targets {
				for _, direction := range directions {
					want, flags, errno := dectext.Make(g.number, direction, p)
					if errno != api.OK {
						t.Fatalf("Make(%d, %d, %+v): %d", g.number, direction, p, errno)
					}
					converts(t, f.number, g.number, direction, b, want, flags)
				}
			}
		}
		if tried < 100 {
			t.Errorf("%d: only %d numbers", f.number, tried)
		}
	})
}

// back fails unless a pattern without sign comes back as it is, both ways Even, with either sign: a NaN that signals as the one that doesn't.
func (f source) back(t *testing.T, g target, pattern *big.Int) {
	t.Helper()
	wantFlags := 0
	still := pattern
	if pattern.Cmp(f.infinity()) > 0 && pattern.Bit(f.precision-2) == 0 {
		still, wantFlags = new(big.Int).SetBit(pattern, f.precision-2, 1), invalid
	}
	for _, sign := range signs {
		b := f.signed(pattern, sign)
		there, flags, errno := crossout.Convert(f.number, g.number, api.Even, b)
		if flags&^inexact != wantFlags || errno != api.OK {
			t.Errorf("Convert(%d, %d, %x): %x %d %d", f.number, g.number, b, there, flags, errno)
		}
		here, more, errno := crossin.Convert(g.number, f.number, api.Even, there)
		if here != f.signed(still, sign) || more&(api.Invalid+api.Overflow) != 0 || errno != api.OK {
			t.Errorf("%x of %d by %x of %d: %x %d %d", b, f.number, there, g.number, here, more, errno)
		}
	}
}

// P19.2: a Double, and all that is narrower, goes into 34 digits, dense or plain, and back, as the same pattern: all patterns of the two smallest formats, of the others edges, powers of two and their neighbours, single bits at every place, and many drawn ones.
func TestP19_2_Back(t *testing.T) {
	t.Parallel()
	for _, f := range sources[:4] {
		for _, g := range of(128) {
			t.Run(strconv.Itoa(f.number)+" by "+strconv.Itoa(g.number), func(t *testing.T) {
				t.Parallel()
				for _, pattern := range f.many() {
					f.back(t, g, pattern)
				}
			})
		}
	}
}

// many are patterns without sign to go and come back with.
func (f source) many() []*big.Int {
	var list []*big.Int
	if f.width == 16 {
		for n := range int64(1 << (f.width - 1)) {
			list = append(list, big.NewInt(n))
		}
		return list
	}
	for n := range f.width - 1 {
		under := plus(two(n), -1)
		list = append(list, two(n), under, new(big.Int).Sub(plus(two(f.width-1), -1), under))
	}
	for n := f.least; n < f.most+f.precision; n++ {
		pattern, _ := f.holding(big.NewInt(1), n)
		list = append(list, plus(pattern, -1), pattern, plus(pattern, 1))
	}
	for _, payload := range f.payloads() {
		list = append(list, f.nan(payload, true), f.nan(payload, false))
	}
	return append(list, f.some(3000)...)
}

// P19.2: also what lies next to powers of ten, and next to other numbers of few digits.
func TestP19_2_Decimals(t *testing.T) {
	t.Parallel()
	for _, f := range sources[2:4] {
		for _, g := range of(128) {
			for exp := -330; exp < 310; exp++ {
				for _, coef := range []int64{1, 2, 5, 99, 12345} {
					for _, pattern := range f.near(big.NewInt(2*coef), exp) {
						f.back(t, g, pattern)
					}
				}
			}
		}
	}
}
