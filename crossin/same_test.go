package crossin_test

import (
	"math/big"
	"strings"
	"testing"

	"caliper/api"
	"caliper/crossin"
	"caliper/decimal"
	"caliper/dectext"
	"caliper/readbin"
	"caliper/transcode"
)

// same fails unless a pattern and another one, of its format or of that one's twin, come to the same, in every binary format and direction.
func (f source) same(t *testing.T, b api.Bits, other int, c api.Bits) {
	t.Helper()
	for _, g := range targets {
		for _, direction := range directions {
			want, flags, errno := crossin.Convert(f.number, g.number, direction, b)
			if errno != api.OK {
				t.Errorf("Convert(%d, %d, %d, %x): %d", f.number, g.number, direction, b, errno)
			}
			converts(t, other, g.number, direction, c, want, flags)
		}
	}
}

// alike fails unless a pattern comes to the same as the canonical one that means what it means, and both to what the oracle has.
func (f source) alike(t *testing.T, b, own api.Bits) {
	t.Helper()
	f.goes(t, own)
	f.same(t, own, f.number, b)
	if canonical, errno := decimal.Canonical(f.number, b); canonical != own || errno != api.OK {
		t.Errorf("Canonical(%d, %x): %x %d, not %x", f.number, b, canonical, errno, own)
	}
}

// read fails unless a pattern's text, read into each binary format in each direction, is what the pattern becomes. A text that signals is read as what signals, which no converted NaN does: without its s it is read as what becomes of it.
func (f source) read(t *testing.T, b api.Bits) {
	t.Helper()
	text, errno := dectext.Write(f.number, b)
	if errno != api.OK {
		t.Fatalf("Write(%d, %x): %d", f.number, b, errno)
	}
	text, more := strings.Replace(text, "snan", "nan", 1), 0
	if f.meaning(b).Signal {
		more = invalid
	}
	for _, g := range targets {
		for _, direction := range directions {
			want, flags, errno := readbin.Read(g.number, direction, text)
			if errno != api.OK {
				t.Fatalf("Read(%d, %d, %s): %d", g.number, direction, text, errno)
			}
			converts(t, f.number, g.number, direction, b, want, flags+more)
		}
	}
}

// whole fails unless a pattern comes to the same as its canonical one, as its twin's and as its text.
func (f source) whole(t *testing.T, b api.Bits) {
	t.Helper()
	code, errno := transcode.Code(f.number, b)
	if errno != api.OK {
		t.Fatalf("Code(%d, %x): %d", f.number, b, errno)
	}
	f.same(t, b, f.twin, code)
	f.same(t, b, f.number, f.made(f.meaning(b)))
	f.read(t, b)
}

// members are the patterns of a cohort's members: those of coef times 10^exp with another exponent, one after the other.
func (f source) members(sign bool, coef *big.Int, exp int) []api.Bits {
	list := []api.Bits{f.finite(sign, coef, exp)}
	ten := big.NewInt(10)
	for longer, less := times(coef, ten), exp-1; less >= f.least && longer.Cmp(power(10, f.precision)) < 0; less-- {
		list = append(list, f.finite(sign, longer, less))
		longer = times(longer, ten)
	}
	return list
}

// P18.2: all members of a cohort come to the same, with the same flags: of cohorts of every length, with numbers within every binary format's reach, beyond it, and about its bounds.
func TestP18_2_Cohorts(t *testing.T) {
	each(t, func(t *testing.T, f source) {
		exps, longest := f.exps(), 0
		for count := 1; count <= f.precision; count++ {
			for i := range 6 {
				seed := uint64(count*6 + i)
				coef := parsed(drawn(count, seed), 10)
				list := f.members(i%2 == 1, coef, exps[int(seed*7)%len(exps)])
				f.goes(t, list[0])
				for _, member := range list[1:] {
					f.same(t, list[0], f.number, member)
				}
				longest = max(longest, len(list))
			}
		}
		if longest != f.precision {
			t.Errorf("%d: no cohort has more than %d members", f.number, longest)
		}
	})
}

// P18.2: so do the members of cohorts that are middles of two binary numbers, and all noughts.
func TestP18_2_MiddlesAndNoughts(t *testing.T) {
	each(t, func(t *testing.T, f source) {
		for _, g := range targets {
			coefs, exps := f.halfway(g)
			for i := 0; i < len(coefs); i += 1 + len(coefs)/6 {
				list := f.members(i%2 == 1, coefs[i], exps[i])
				for _, member := range list {
					f.same(t, list[0], f.number, member)
				}
			}
		}
		for _, sign := range signs {
			for _, exp := range f.exps() {
				f.same(t, f.digits(sign, "0", 0), f.number, f.digits(sign, "0", exp))
			}
		}
	})
}

// P18.2: a pattern comes to the same as its twin's, and as its text: of coefficients of every kind and exponents of every kind.
func TestP18_2_TwinsAndTexts(t *testing.T) {
	each(t, func(t *testing.T, f source) {
		exps := f.exps()
		for i, digits := range f.coefs() {
			for j := range 4 {
				f.whole(t, f.digits(j%2 == 1, digits, exps[(i*4+j)%len(exps)]))
			}
		}
		for _, sign := range signs {
			f.whole(t, f.infinity(sign))
			for _, payload := range f.payloads() {
				f.whole(t, f.nan(sign, false, payload))
				f.whole(t, f.nan(sign, true, payload))
			}
		}
	})
}

// P18.2: so do drawn patterns, canonical and not.
func TestP18_2_Drawn(t *testing.T) {
	each(t, func(t *testing.T, f source) {
		strange := 0
		for seed := range uint64(250) {
			draw := high(seed+1<<25, f.width)
			for place := range seed % 3 * 2 {
				draw.SetBit(draw, f.width-2-int(place), 1)
			}
			b := toBits(draw)
			f.whole(t, b)
			if f.made(f.meaning(b)) != b {
				strange++
			}
		}
		if strange < 50 {
			t.Errorf("%d: only %d aren't canonical", f.number, strange)
		}
	})
}

// P18.1: without the sign Up is Down, and all else is the same.
func TestP18_1_Signs(t *testing.T) {
	mirrored := []int{api.Even, api.Away, api.Zero, api.Down, api.Up}
	each(t, func(t *testing.T, f source) {
		exps := f.exps()
		var list []api.Bits
		for i, digits := range f.coefs() {
			list = append(list, f.digits(true, digits, exps[i%len(exps)]), f.digits(true, digits, 0))
		}
		for _, payload := range f.payloads() {
			list = append(list, f.nan(true, false, payload), f.nan(true, true, payload))
		}
		for _, b := range append(list, f.infinity(true)) {
			for _, g := range targets {
				for _, direction := range directions {
					with, flags, errno := crossin.Convert(f.number, g.number, direction, b)
					if toBig(with).Bit(g.width-1) != 1 || errno != api.OK {
						t.Errorf("Convert(%d, %d, %d, %x): %x %d", f.number, g.number, direction, b, with, errno)
					}
					without := toBits(new(big.Int).Xor(toBig(with), two(g.width-1)))
					converts(t, f.number, g.number, mirrored[direction], f.negated(b), without, flags)
				}
			}
		}
	})
}
