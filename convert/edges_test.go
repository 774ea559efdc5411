package convert_test

import (
	"math"
	"math/big"
	"sync"
	"testing"

	"caliper/api"
	"caliper/convert"
	"caliper/grammar"
)

// noFormats are numbers of no format.
var noFormats = []int{0, 13, 14, -1, -3, -12, 256 + 3, 256 + 10, 1<<32 + 3, 1<<32 + 7, -1<<32 + 10, math.MinInt, math.MinInt + 4, math.MinInt + 11, math.MaxInt, math.MaxInt - 5}

// noDirections are numbers of no direction.
var noDirections = []int{-1, -2, 5, 6, 8, 256, 1 << 32, 1<<32 + 2, math.MinInt, math.MinInt + 1, math.MaxInt}

// kinds are patterns of every kind: 0, numbers that come out exactly, that are rounded, that overflow and underflow, infinities, NaNs quiet and signalling, and all bits.
func (f format) kinds() []api.Bits {
	return []api.Bits{
		nothing,
		f.one(false),
		f.near(77),
		f.greatest(false),
		f.tiniest(true),
		f.infinity(false),
		f.infinity(true),
		f.nan(false, false, big.NewInt(5)),
		f.nan(true, true, big.NewInt(1)),
		toBits(plus(two(f.width), -1)),
	}
}

// TestKinds holds those patterns, which are refused below, against the oracle.
func TestKinds(t *testing.T) {
	for _, f := range formats {
		for _, b := range f.kinds() {
			f.goes(t, b)
		}
	}
}

// R5, R6: a format to convert from, or into, that is none, each alone and both, with every direction and with none.
func TestNoFormats(t *testing.T) {
	for _, none := range noFormats {
		for _, f := range formats {
			for _, b := range append(f.kinds(), toBits(two(f.width)), toBits(plus(two(256), -1))) {
				for _, direction := range append(directions, noDirections...) {
					refused(t, f.number, none, direction, b)
					refused(t, none, f.number, direction, b)
				}
				refused(t, none, noFormats[f.number], api.Even, b)
				refused(t, none, none, noDirections[f.number%11], b)
				refusedPattern(t, none, b)
			}
		}
	}
}

// R5, R6: a direction that is none, of patterns of every kind, such as aren't rounded too, and of a format into itself.
func TestNoDirections(t *testing.T) {
	for _, f := range formats {
		for _, g := range formats {
			for _, b := range append(f.kinds(), toBits(two(255))) {
				for _, direction := range noDirections {
					refused(t, f.number, g.number, direction, b)
				}
			}
		}
	}
}

// R5, R6: a pattern with bits beyond the width, at every place, whatever stands below them, alone and with other errors, even where it fits the other format.
func TestTooWide(t *testing.T) {
	for _, f := range formats {
		for i, low := range f.kinds() {
			for place := f.width; place < 256; place++ {
				b := with(low, two(place))
				refused(t, f.number, formats[(i+place)%12].number, directions[place%5], b)
				refused(t, f.number, api.Octo, api.Even, with(low, new(big.Int).Sub(two(256), two(place))))
				refusedPattern(t, f.number, b)
				if place%16 == 0 {
					refused(t, f.number, f.number, api.Even, b)
					refused(t, f.number, api.Octo, 5, b)
					refused(t, f.number, 13, api.Even, b)
					refused(t, f.number, 0, -1, b)
				}
			}
		}
	}
}

// R5, R6: Read of a format or a direction that is none, or both, is ErrArg, ahead of what is wrong with a text.
func TestReadArguments(t *testing.T) {
	texts := []string{"1", "-0.1", "0", "1e999", "inf", "-nan(5)", "snan", "", "x", "1e", "nan()", nines(api.MostText + 1)}
	for _, s := range texts {
		for _, direction := range append(directions, noDirections...) {
			for _, none := range noFormats {
				refusedText(t, none, direction, s, api.ErrArg)
			}
		}
		for _, direction := range noDirections {
			for _, f := range formats {
				refusedText(t, f.number, direction, s, api.ErrArg)
			}
		}
	}
}

// P22.1: Class of every format: noughts, finite ones, infinities, NaNs of both kinds, of both signs.
func TestP22_1_Class(t *testing.T) {
	each(t, formats, func(t *testing.T, f format) {
		for _, sign := range signs {
			classes(t, f.number, f.nought(sign, 0), api.Finite, sign, false)
			classes(t, f.number, f.nought(sign, f.most), api.Finite, sign, false)
			classes(t, f.number, f.one(sign), api.Finite, sign, false)
			classes(t, f.number, f.tiniest(sign), api.Finite, sign, false)
			classes(t, f.number, f.greatest(sign), api.Finite, sign, false)
			classes(t, f.number, f.infinity(sign), api.Infinite, sign, false)
			for _, payload := range f.payloads() {
				classes(t, f.number, f.nan(sign, false, payload), api.NaN, sign, false)
				if f.base == 10 || payload.Sign() > 0 {
					classes(t, f.number, f.nan(sign, true, payload), api.NaN, sign, true)
				}
			}
		}
		list := f.edges()
		for seed := range uint64(2000) {
			list = append(list, f.drawn(seed), f.near(seed), f.tiny(seed))
		}
		if f.base == 10 {
			for _, pair := range f.strange() {
				list = append(list, pair[1])
			}
		}
		for _, b := range list {
			m := f.of(b)
			classes(t, f.number, b, m.class, m.sign, m.signal)
			classes(t, f.number, f.negated(b), m.class, !m.sign, m.signal)
		}
	})
}

// P22.1: Class of all patterns of the two smallest formats.
func TestP22_1_ClassOfAll(t *testing.T) {
	each(t, binaries[:2], func(t *testing.T, f format) {
		for n := range int64(1 << f.width) {
			b := toBits(big.NewInt(n))
			m := f.of(b)
			classes(t, f.number, b, m.class, m.sign, m.signal)
		}
	})
}

// TestClassWritten holds classes without the oracle.
func TestClassWritten(t *testing.T) {
	for _, c := range []struct {
		number       int
		b            api.Bits
		class        int
		sign, signal bool
	}{
		{1, api.Bits{}, api.Finite, false, false},
		{1, api.Bits{0x8000}, api.Finite, true, false},
		{1, api.Bits{0x7bff}, api.Finite, false, false},
		{1, api.Bits{0xfc00}, api.Infinite, true, false},
		{1, api.Bits{0x7c01}, api.NaN, false, true},
		{1, api.Bits{0xfe00}, api.NaN, true, false},
		{2, api.Bits{0x7c00}, api.Finite, false, false},
		{2, api.Bits{0xff81}, api.NaN, true, true},
		{3, api.Bits{0x7f800000}, api.Infinite, false, false},
		{4, api.Bits{0x7ff8000000000000}, api.NaN, false, false},
		{5, api.Bits{1, 0x7fff000000000000}, api.NaN, false, true},
		{6, api.Bits{0, 0, 0, 0xffff000000000000}, api.Infinite, true, false},
		{7, api.Bits{0x78000000}, api.Infinite, false, false},
		{7, api.Bits{0xfbffffff}, api.Infinite, true, false},
		{7, api.Bits{0xecb89680}, api.Finite, true, false},
		{8, api.Bits{0x7e00000000000000}, api.NaN, false, true},
		{9, api.Bits{0, 0xfc00000000000000}, api.NaN, true, false},
		{10, api.Bits{0xfe000001}, api.NaN, true, true},
		{10, api.Bits{0x7dffffff}, api.NaN, false, false},
		{11, api.Bits{0xa238000000000001}, api.Finite, true, false},
		{12, api.Bits{math.MaxUint64, math.MaxUint64}, api.NaN, true, true},
	} {
		classes(t, c.number, c.b, c.class, c.sign, c.signal)
	}
}

// R2: the same arguments have the same answers, whatever is asked in between or at the same time.
func TestTogether(t *testing.T) {
	var workers sync.WaitGroup
	for _, f := range formats {
		for _, b := range f.kinds() {
			workers.Go(func() {
				for range 2 {
					f.goes(t, b)
					f.sameText(t, b)
					m := f.of(b)
					classes(t, f.number, b, m.class, m.sign, m.signal)
					refused(t, f.number, 13, api.Even, b)
					refusedText(t, f.number, api.Up, "1e", api.ErrForm)
				}
			})
		}
	}
	workers.Wait()
}

// known says whether the number is a format's.
func known(number int) bool { return number >= api.Half && number <= api.Dense128 }

// R1: no call panics, whatever it is given, and each answers as the oracle does, or ErrArg and nothing else.
func FuzzConvert(f *testing.F) {
	for i := range 16 {
		f.Add(i, 14-i, i%6, uint64(0x77f3fcff), uint64(1)<<(4*i), uint64(i%2), uint64(0))
		f.Add(1+i%12, 1+i*5%12, i%5, uint64(math.MaxUint64), uint64(i)<<60, uint64(0), uint64(i/8))
	}
	f.Fuzz(func(t *testing.T, from, to, direction int, a, b, c, d uint64) {
		pattern := api.Bits{a, b, c, d}
		if !known(from) {
			refusedPattern(t, from, pattern)
		}
		if !known(from) || !known(to) || direction < api.Even || direction > api.Down {
			refused(t, from, to, direction, pattern)
			return
		}
		s, g := numbered(from), numbered(to)
		if low := toBits(new(big.Int).Mod(toBig(pattern), two(s.width))); low != pattern {
			refused(t, from, to, direction, pattern)
			refusedPattern(t, from, pattern)
			// Most patterns are too wide: what is left of them is tried too.
			pattern = low
		}
		s.turn(t, g, direction, pattern)
		s.sameText(t, pattern)
		m := s.of(pattern)
		classes(t, from, pattern, m.class, m.sign, m.signal)
	})
}

// R1, P1: whatever text, format and direction, Read ends, and answers the text's number, rounded as the document says, or an error and nothing else.
func FuzzRead(f *testing.F) {
	for i, s := range []string{"", "0.10", "-1e97", "99999995e89", "snan(07)", "-inf", "15e-102", "1e", ".", "0e-9999", "nan(1000000)", "1000000000000000000000"} {
		f.Add(i, i%6, s)
		f.Add(12-i, i%5, s)
	}
	f.Fuzz(func(t *testing.T, number, direction int, s string) {
		p, wrong := grammar.Cut(s)
		if !known(number) || direction < api.Even || direction > api.Down {
			refusedText(t, number, direction, s, api.ErrArg)
			return
		}
		if wrong == api.OK {
			if _, errno := grammar.Join(p); errno != api.OK {
				wrong = api.ErrForm
			}
		}
		if wrong != api.OK {
			refusedText(t, number, direction, s, wrong)
			return
		}
		b, flags, errno := convert.Read(number, direction, s)
		if errno != api.OK {
			t.Errorf("Read(%d, %d, %s): %x %d %d", number, direction, brief(s), b, flags, errno)
		}
		// Farther exponents are beyond the oracle's means.
		if p.Class == api.Finite && p.Exp > -20000 && p.Exp < 20000 {
			m := meaning{class: api.Finite, sign: p.Sign, coef: parsed("0"+p.Digits, 10), base: 10, exp: p.Exp}
			want, wanted := numbered(number).answers(m)(direction, p.Sign)
			reads(t, number, direction, s, want, wanted)
		}
	})
}
