package readbin_test

import (
	"fmt"
	"math"
	"math/big"
	"strconv"
	"strings"
	"testing"

	"caliper/api"
	"caliper/grammar"
	"caliper/readbin"
)

// reads fails unless the text reads so.
func reads(t *testing.T, number, direction int, s string, want api.Bits, wantFlags int) {
	t.Helper()
	b, flags, errno := readbin.Read(number, direction, s)
	if b != want || flags != wantFlags || errno != api.OK {
		t.Errorf("Read(%d, %d, %s): %x %d %d, not %x %d", number, direction, brief(s), b, flags, errno, want, wantFlags)
	}
}

// P8.1: the chapter's examples.
func TestExamples(t *testing.T) {
	reads(t, api.Single, api.Even, "0.1", api.Bits{0x3dcccccd}, inexact)
	reads(t, api.Half, api.Even, "65520", api.Bits{0x7c00}, overflow)
	reads(t, api.Half, api.Zero, "65520", api.Bits{0x7bff}, inexact)
	reads(t, api.Single, api.Even, "nan(5)", api.Bits{0x7fc00005}, 0)
}

// row is a text of Half, and what it is in each of the five directions, in their order: as it is, and with a - ahead.
type row struct {
	s               string
	plus, minus     [5]uint64
	pluses, minuses [5]int
}

// each says one flag sum for all directions.
func each(flags int) [5]int { return [5]int{flags, flags, flags, flags, flags} }

// The rows are worked out by hand from DOC.md's words: they don't hang on the oracle.
var written = []row{
	{s: "1", plus: [5]uint64{0x3c00, 0x3c00, 0x3c00, 0x3c00, 0x3c00}, minus: [5]uint64{0xbc00, 0xbc00, 0xbc00, 0xbc00, 0xbc00}},
	{s: "1000.00e-3", plus: [5]uint64{0x3c00, 0x3c00, 0x3c00, 0x3c00, 0x3c00}, minus: [5]uint64{0xbc00, 0xbc00, 0xbc00, 0xbc00, 0xbc00}},
	{s: ".0005E4", plus: [5]uint64{0x4500, 0x4500, 0x4500, 0x4500, 0x4500}, minus: [5]uint64{0xc500, 0xc500, 0xc500, 0xc500, 0xc500}},
	// Two fifths of the way between two.
	{s: "0.1", plus: [5]uint64{0x2e66, 0x2e66, 0x2e66, 0x2e67, 0x2e66}, minus: [5]uint64{0xae66, 0xae66, 0xae66, 0xae66, 0xae67}, pluses: each(inexact), minuses: each(inexact)},
	// The middle above an even neighbour, and above an odd one, and just beside them.
	{s: "2049", plus: [5]uint64{0x6800, 0x6801, 0x6800, 0x6801, 0x6800}, minus: [5]uint64{0xe800, 0xe801, 0xe800, 0xe800, 0xe801}, pluses: each(inexact), minuses: each(inexact)},
	{s: "2051", plus: [5]uint64{0x6802, 0x6802, 0x6801, 0x6802, 0x6801}, minus: [5]uint64{0xe802, 0xe802, 0xe801, 0xe801, 0xe802}, pluses: each(inexact), minuses: each(inexact)},
	{s: "2050.9999", plus: [5]uint64{0x6801, 0x6801, 0x6801, 0x6802, 0x6801}, minus: [5]uint64{0xe801, 0xe801, 0xe801, 0xe801, 0xe802}, pluses: each(inexact), minuses: each(inexact)},
	{s: "2049.0001", plus: [5]uint64{0x6801, 0x6801, 0x6800, 0x6801, 0x6800}, minus: [5]uint64{0xe801, 0xe801, 0xe800, 0xe800, 0xe801}, pluses: each(inexact), minuses: each(inexact)},
	// What is rounded up to 2^P.
	{s: "4095", plus: [5]uint64{0x6c00, 0x6c00, 0x6bff, 0x6c00, 0x6bff}, minus: [5]uint64{0xec00, 0xec00, 0xebff, 0xebff, 0xec00}, pluses: each(inexact), minuses: each(inexact)},
	// The least one, half of it, and just beside that.
	{s: "5.9604644775390625e-8", plus: [5]uint64{1, 1, 1, 1, 1}, minus: [5]uint64{0x8001, 0x8001, 0x8001, 0x8001, 0x8001}},
	{s: "2.98023223876953125e-8", plus: [5]uint64{0, 1, 0, 1, 0}, minus: [5]uint64{0x8000, 0x8001, 0x8000, 0x8000, 0x8001}, pluses: each(underflow), minuses: each(underflow)},
	{s: "2.98023223876953124e-8", plus: [5]uint64{0, 0, 0, 1, 0}, minus: [5]uint64{0x8000, 0x8000, 0x8000, 0x8000, 0x8001}, pluses: each(underflow), minuses: each(underflow)},
	{s: "2.98023223876953126e-8", plus: [5]uint64{1, 1, 0, 1, 0}, minus: [5]uint64{0x8001, 0x8001, 0x8000, 0x8000, 0x8001}, pluses: each(underflow), minuses: each(underflow)},
	{s: "1e-100", plus: [5]uint64{0, 0, 0, 1, 0}, minus: [5]uint64{0x8000, 0x8000, 0x8000, 0x8000, 0x8001}, pluses: each(underflow), minuses: each(underflow)},
	// The first with an exponent above 0, the one ahead of it, and what lies between.
	{s: "0.00006103515625", plus: [5]uint64{0x400, 0x400, 0x400, 0x400, 0x400}, minus: [5]uint64{0x8400, 0x8400, 0x8400, 0x8400, 0x8400}},
	{s: "6.0975551605224609375e-5", plus: [5]uint64{0x3ff, 0x3ff, 0x3ff, 0x3ff, 0x3ff}, minus: [5]uint64{0x83ff, 0x83ff, 0x83ff, 0x83ff, 0x83ff}},
	{s: "6.103e-5", plus: [5]uint64{0x400, 0x400, 0x3ff, 0x400, 0x3ff}, minus: [5]uint64{0x8400, 0x8400, 0x83ff, 0x83ff, 0x8400}, pluses: each(underflow), minuses: each(underflow)},
	{s: "6.104e-5", plus: [5]uint64{0x400, 0x400, 0x400, 0x401, 0x400}, minus: [5]uint64{0x8400, 0x8400, 0x8400, 0x8400, 0x8401}, pluses: each(inexact), minuses: each(inexact)},
	// The greatest one, just below the bound, just at it, and beyond.
	{s: "65504", plus: [5]uint64{0x7bff, 0x7bff, 0x7bff, 0x7bff, 0x7bff}, minus: [5]uint64{0xfbff, 0xfbff, 0xfbff, 0xfbff, 0xfbff}},
	{s: "65519.99999", plus: [5]uint64{0x7bff, 0x7bff, 0x7bff, 0x7c00, 0x7bff}, minus: [5]uint64{0xfbff, 0xfbff, 0xfbff, 0xfbff, 0xfc00}, pluses: [5]int{inexact, inexact, inexact, overflow, inexact}, minuses: [5]int{inexact, inexact, inexact, inexact, overflow}},
	{s: "65520", plus: [5]uint64{0x7c00, 0x7c00, 0x7bff, 0x7c00, 0x7bff}, minus: [5]uint64{0xfc00, 0xfc00, 0xfbff, 0xfbff, 0xfc00}, pluses: [5]int{overflow, overflow, inexact, overflow, inexact}, minuses: [5]int{overflow, overflow, inexact, inexact, overflow}},
	{s: "65535.9", plus: [5]uint64{0x7c00, 0x7c00, 0x7bff, 0x7c00, 0x7bff}, minus: [5]uint64{0xfc00, 0xfc00, 0xfbff, 0xfbff, 0xfc00}, pluses: [5]int{overflow, overflow, inexact, overflow, inexact}, minuses: [5]int{overflow, overflow, inexact, inexact, overflow}},
	{s: "65536", plus: [5]uint64{0x7c00, 0x7c00, 0x7bff, 0x7c00, 0x7bff}, minus: [5]uint64{0xfc00, 0xfc00, 0xfbff, 0xfbff, 0xfc00}, pluses: each(overflow), minuses: each(overflow)},
	{s: "1e100", plus: [5]uint64{0x7c00, 0x7c00, 0x7bff, 0x7c00, 0x7bff}, minus: [5]uint64{0xfc00, 0xfc00, 0xfbff, 0xfbff, 0xfc00}, pluses: each(overflow), minuses: each(overflow)},
}

// P8.1: rows written out by hand.
func TestP8_1_Written(t *testing.T) {
	for _, c := range written {
		for i, direction := range directions {
			reads(t, api.Half, direction, c.s, api.Bits{c.plus[i]}, c.pluses[i])
			reads(t, api.Half, direction, "+"+c.s, api.Bits{c.plus[i]}, c.pluses[i])
			reads(t, api.Half, direction, "-"+c.s, api.Bits{c.minus[i]}, c.minuses[i])
		}
	}
}

// P8.1: the other formats, said without the oracle.
func TestP8_1_Formats(t *testing.T) {
	nines := uint64(0x9999999999999999)
	for _, c := range []struct {
		number, direction int
		s                 string
		b                 api.Bits
		flags             int
	}{
		{api.Brain, api.Even, "0.1", api.Bits{0x3dcd}, inexact},
		{api.Brain, api.Down, "0.1", api.Bits{0x3dcc}, inexact},
		{api.Brain, api.Even, "257", api.Bits{0x4380}, inexact},
		{api.Brain, api.Away, "257", api.Bits{0x4381}, inexact},
		{api.Brain, api.Even, "1e39", api.Bits{0x7f80}, overflow},
		{api.Brain, api.Zero, "1e39", api.Bits{0x7f7f}, overflow},
		{api.Brain, api.Up, "1e-41", api.Bits{1}, underflow},
		{api.Single, api.Even, "16777217", api.Bits{0x4b800000}, inexact},
		{api.Single, api.Even, "16777219", api.Bits{0x4b800002}, inexact},
		{api.Single, api.Even, "16777217.00000001", api.Bits{0x4b800001}, inexact},
		{api.Single, api.Even, "3.4028234663852885981170418348451692544e38", api.Bits{0x7f7fffff}, 0},
		{api.Single, api.Even, "340282356779733661637539395458142568448", api.Bits{0x7f800000}, overflow},
		{api.Single, api.Even, "340282356779733661637539395458142568447", api.Bits{0x7f7fffff}, inexact},
		{api.Double, api.Even, "0.1", api.Bits{0x3fb999999999999a}, inexact},
		{api.Double, api.Zero, "0.1", api.Bits{0x3fb9999999999999}, inexact},
		{api.Double, api.Even, "2.2250738585072011e-308", api.Bits{0xfffffffffffff}, underflow},
		{api.Double, api.Even, "2.2250738585072014e-308", api.Bits{0x10000000000000}, inexact},
		{api.Double, api.Even, "1.7976931348623157e308", api.Bits{0x7fefffffffffffff}, inexact},
		{api.Double, api.Even, "1.7976931348623159e308", api.Bits{0x7ff0000000000000}, overflow},
		{api.Double, api.Even, "1e23", api.Bits{0x44b52d02c7e14af6}, inexact},
		{api.Quad, api.Even, "0.1", api.Bits{0x999999999999999a, 0x3ffb999999999999}, inexact},
		{api.Quad, api.Down, "0.1", api.Bits{nines, 0x3ffb999999999999}, inexact},
		{api.Quad, api.Even, "1.189731495357231765085759326628007e4932", api.Bits{math.MaxUint64, 0x7ffeffffffffffff}, inexact},
		{api.Quad, api.Even, "1.19e4932", api.Bits{0, 0x7fff000000000000}, overflow},
		{api.Quad, api.Even, "6.475175119438025e-4966", api.Bits{1}, underflow},
		{api.Quad, api.Even, "3.2e-4966", api.Bits{}, underflow},
		{api.Quad, api.Even, "3.3e-4966", api.Bits{1}, underflow},
		{api.Octo, api.Even, "0.1", api.Bits{0x999999999999999a, nines, nines, 0x3ffb999999999999}, inexact},
		{api.Octo, api.Zero, "0.1", api.Bits{nines, nines, nines, 0x3ffb999999999999}, inexact},
		{api.Octo, api.Even, "3", api.Bits{0, 0, 0, 0x4000800000000000}, 0},
		{api.Octo, api.Even, "1.2e4932", api.Bits{0, 0, 0, 0x7fff000000000000}, overflow},
		{api.Octo, api.Down, "1.2e4932", api.Bits{math.MaxUint64, math.MaxUint64, math.MaxUint64, 0x7ffeffffffffffff}, overflow},
		{api.Octo, api.Up, "1e-5004", api.Bits{1}, underflow},
		{api.Octo, api.Even, "1e-5005", api.Bits{}, underflow},
	} {
		reads(t, c.number, c.direction, c.s, c.b, c.flags)
	}
}

// P8.1: each format, at its numbers, at the middles between them, and just beside both, written in several ways.
func TestP8_1_Beside(t *testing.T) {
	for _, f := range formats {
		t.Run(fmt.Sprint(f.number), func(t *testing.T) {
			t.Parallel()
			for i, pattern := range f.patterns() {
				for _, d := range f.beside(pattern, 1+i%25) {
					f.check(t, d, d.ways()...)
				}
				for _, d := range f.beside(pattern, 40*(i%25)) {
					f.check(t, d)
				}
			}
		})
	}
}

// P8.1: every number of Half, every middle, and what lies just beside them.
func TestP8_1_AllOfHalf(t *testing.T) {
	f := formats[0]
	for piece := range int64(8) {
		t.Run(fmt.Sprint(piece), func(t *testing.T) {
			t.Parallel()
			for pattern := big.NewInt(piece); pattern.Cmp(f.infinity()) < 0; pattern = plus(pattern, 8) {
				for _, d := range f.beside(pattern, 1) {
					f.check(t, d)
				}
			}
		})
	}
}

// P8.1: every power of two that a format has, and, with as many digits as there is room for, what lies beside those that no text is long enough for.
func TestP8_1_PowersOfTwo(t *testing.T) {
	for _, f := range formats {
		t.Run(fmt.Sprint(f.number), func(t *testing.T) {
			t.Parallel()
			step := 1
			if f.least < -10000 {
				step = 331
			}
			for exp := f.least - 2; exp < f.most+f.precision+2; exp += step {
				for _, d := range nearby(big.NewInt(1), exp, 1) {
					f.check(t, d)
				}
			}
		})
	}
}

// P8.1: digits of all kinds of sizes, with every exponent that brings them near a format's numbers and some way beyond.
func TestP8_1_Scattered(t *testing.T) {
	for _, f := range formats {
		t.Run(fmt.Sprint(f.number), func(t *testing.T) {
			t.Parallel()
			low, high := f.least*30103/100000-20, (f.most+f.precision)*30103/100000+20
			for seed := range uint64(400) {
				size := int(scattered(seed)%40) + 1
				if seed%40 == 0 {
					size = int(scattered(seed)%mostDigits) + 1
				}
				exp := low + int(scattered(seed+9000)%uint64(high-low)) - size
				f.check(t, decimal{number(size, seed), exp})
			}
		})
	}
}

// P8.1: to the nearest, the language's own reading comes to the same.
func TestP8_1_Native(t *testing.T) {
	for seed := range uint64(20000) {
		size := int(scattered(seed)%25) + 1
		s := number(size, seed).String() + "e" + strconv.Itoa(int(scattered(seed+70000)%720)-370-size)
		narrow, _ := strconv.ParseFloat(s, 32)
		broad, _ := strconv.ParseFloat(s, 64)
		b, _, errno := readbin.Read(api.Single, api.Even, s)
		if b != (api.Bits{uint64(math.Float32bits(float32(narrow)))}) || errno != api.OK {
			t.Errorf("%s: %x %d, not %v", s, b, errno, narrow)
		}
		b, _, errno = readbin.Read(api.Double, api.Even, s)
		if b != (api.Bits{math.Float64bits(broad)}) || errno != api.OK {
			t.Errorf("%s: %x %d, not %v", s, b, errno, broad)
		}
	}
}

// P8.1: Make of parts is Read of the text that Join makes of them.
func TestP8_1_MakeIsRead(t *testing.T) {
	for _, f := range formats {
		for _, class := range []int{api.Finite, api.Infinite, api.NaN} {
			for _, digits := range []string{"", "1", "7", "63", "64", "1234567890123456789012345678901234567890", "650", "65520"} {
				for _, exp := range []int{0, 1, -1, 5, -30, billion, -billion} {
					for i := range 4 {
						p := grammar.Parts{Class: class, Sign: i&1 != 0, Signal: i&2 != 0, Digits: digits, Exp: exp}
						s, errno := grammar.Join(p)
						for _, direction := range directions {
							want, wantFlags, wantErrno := readbin.Read(f.number, direction, s)
							if errno != api.OK {
								want, wantFlags, wantErrno = api.Bits{}, 0, api.ErrForm
							}
							b, flags, got := readbin.Make(f.number, direction, p)
							if b != want || flags != wantFlags || got != wantErrno {
								t.Errorf("Make(%d, %d, %+v): %x %d %d, not %x %d %d", f.number, direction, p, b, flags, got, want, wantFlags, wantErrno)
							}
						}
					}
				}
			}
		}
	}
}

// P8.2: a number of the format, written out, is that number in all directions, and raises nothing.
func TestP8_2_NumbersOfTheFormat(t *testing.T) {
	for _, f := range formats {
		seen := 0
		for _, pattern := range f.patterns() {
			coef, exp := f.reading(pattern)
			d := exactly(coef, exp)
			if len(d.digits.String()) > mostDigits {
				continue
			}
			texts := []string{d.text(), "+" + d.text(), "00" + d.text()}
			if pattern.Sign() > 0 {
				texts = append(texts, d.ways()...)
			}
			for _, direction := range directions {
				for _, s := range texts {
					reads(t, f.number, direction, s, f.signed(pattern, false), 0)
				}
				reads(t, f.number, direction, "-"+d.text(), f.signed(pattern, true), 0)
			}
			seen++
		}
		if seen < 10 {
			t.Errorf("format %d: only %d numbers", f.number, seen)
		}
	}
}

// P8.2: so are all numbers of Half and of Brain that end within some digits.
func TestP8_2_AllOfTheNarrow(t *testing.T) {
	for _, f := range formats[:2] {
		for pattern := big.NewInt(0); pattern.Cmp(f.infinity()) < 0; pattern = plus(pattern, 1) {
			coef, exp := f.reading(pattern)
			s := exactly(coef, exp).text()
			for _, direction := range directions {
				reads(t, f.number, direction, s, f.signed(pattern, false), 0)
			}
		}
	}
}

// P8.2: the numbers with the most digits that there is room for in a text: odd ones with a very low exponent.
func TestP8_2_MostDigits(t *testing.T) {
	for _, f := range formats {
		exp := max(f.least, -5800)
		for len(exactly(plus(two(f.precision), -1), exp).text()) > api.MostText {
			exp++
		}
		for _, coef := range []*big.Int{plus(two(f.precision), -1), plus(two(f.precision-1), 1)} {
			s := exactly(coef, exp).text()
			if f.number >= api.Quad && len(s) < api.MostText-1 {
				t.Errorf("format %d: only %d bytes", f.number, len(s))
			}
			for _, direction := range directions {
				reads(t, f.number, direction, s, f.signed(f.pattern(coef, exp), false), 0)
			}
		}
	}
}

// P8.1: thousands of noughts between a middle and the digit that brings a number above it; and nines that leave it below.
func TestP8_1_JustBesideAMiddle(t *testing.T) {
	for _, f := range formats {
		low := two(f.precision)
		middle := plus(low, 1)
		even, odd := f.pattern(two(f.precision-1), 1), plus(f.pattern(two(f.precision-1), 1), 1)
		for _, noughts := range []int{0, 1, 18, 19, 20, 100, 800, 2000, 3500} {
			above := middle.String() + "." + strings.Repeat("0", noughts) + "1"
			below := low.String() + "." + strings.Repeat("9", noughts+1)
			at := middle.String() + "." + strings.Repeat("0", noughts+1)
			reads(t, f.number, api.Even, above, f.signed(odd, false), inexact)
			reads(t, f.number, api.Even, "-"+above, f.signed(odd, true), inexact)
			reads(t, f.number, api.Away, above, f.signed(odd, false), inexact)
			reads(t, f.number, api.Zero, above, f.signed(even, false), inexact)
			reads(t, f.number, api.Even, below, f.signed(even, false), inexact)
			reads(t, f.number, api.Away, "-"+below, f.signed(even, true), inexact)
			reads(t, f.number, api.Up, below, f.signed(odd, false), inexact)
			reads(t, f.number, api.Even, at, f.signed(even, false), inexact)
			reads(t, f.number, api.Away, at, f.signed(odd, false), inexact)
			// Beside a number of the format.
			next := low.String() + "." + strings.Repeat("0", noughts) + "1"
			reads(t, f.number, api.Down, "-"+next, f.signed(odd, true), inexact)
			reads(t, f.number, api.Away, next, f.signed(even, false), inexact)
			reads(t, f.number, api.Up, low.String()+"."+strings.Repeat("0", noughts+1), f.signed(even, false), 0)
		}
	}
}
