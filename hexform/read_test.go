package hexform_test

import (
	"fmt"
	"math"
	"math/big"
	"strconv"
	"strings"
	"testing"

	"caliper/api"
	"caliper/grammar"
	"caliper/hexform"
	"caliper/readbin"
)

// P11.1: the chapter's examples of Read.
func TestExamplesOfRead(t *testing.T) {
	reads(t, api.Single, api.Even, "0x.8p1", api.Bits{0x3f800000}, 0)
	reads(t, api.Single, api.Up, "0x1.0000001p0", api.Bits{0x3f800001}, inexact)
}

// P11.1: ways to write one number, and a few others, in all directions without flags.
func TestP11_1_Ways(t *testing.T) {
	for _, c := range []struct {
		s string
		b uint64
	}{
		{"0x1p0", 0x3c00}, {"0X1P0", 0x3c00}, {"+0x1p+0", 0x3c00}, {"-0x1p-0", 0xbc00},
		{"0x1.p0", 0x3c00}, {"0x.1p4", 0x3c00}, {"0x.1p+4", 0x3c00}, {"0x10p-4", 0x3c00},
		{"0x0001p0", 0x3c00}, {"0x1.000p0", 0x3c00}, {"0x00.0001000p16", 0x3c00}, {"0x8p-003", 0x3c00},
		{"0x1000.p-12", 0x3c00}, {"0x1p0000000000000000000000000000", 0x3c00}, {"-0X.01P8", 0xbc00},
		{"0xap0", 0x4900}, {"0xAp0", 0x4900}, {"0x0Ap0", 0x4900}, {"0X.aP4", 0x4900}, {"0xa.p-0", 0x4900},
		{"0xffp0", 0x5bf8}, {"0xFfp0", 0x5bf8}, {"0xf.Fp4", 0x5bf8}, {"-0xF.fp+4", 0xdbf8},
		{"0xbp0", 0x4980}, {"0xCp0", 0x4a00}, {"0xdp0", 0x4a80}, {"0xEp0", 0x4b00}, {"0xep0", 0x4b00}, {"0x1ep0", 0x4f80},
		{"0x1.8p1", 0x4200}, {"0x3p0", 0x4200}, {"0x.18p5", 0x4200}, {"0x.3P4", 0x4200},
		{"0x2p0", 0x4000}, {"0x4p0", 0x4400}, {"0x5p0", 0x4500}, {"0x6p0", 0x4600}, {"0x7p0", 0x4700}, {"0x9p0", 0x4880},
		{"0x1p-24", 1}, {"-0x1p-24", 0x8001}, {"0x.8p-23", 1}, {"0x3ffp-24", 0x3ff}, {"0x7ffp5", 0x7bff}, {"0x1.ffcp15", 0x7bff},
	} {
		back(t, api.Half, c.s, api.Bits{c.b})
	}
}

// row is a text of Half, and what it is in each of the five directions, in their order: as it is, and with a - ahead.
type row struct {
	s               string
	plus, minus     [5]uint64
	pluses, minuses [5]int
}

// each says one flag sum for all directions.
func each(flags int) [5]int { return [5]int{flags, flags, flags, flags, flags} }

// The rows are worked out by hand from DOC.md's words: they don't hang on the oracle.
var written = []row{
	// A quarter of the way between two, the middle above an even neighbour, and three quarters of the way.
	{s: "0x1.001p0", plus: [5]uint64{0x3c00, 0x3c00, 0x3c00, 0x3c01, 0x3c00}, minus: [5]uint64{0xbc00, 0xbc00, 0xbc00, 0xbc00, 0xbc01}, pluses: each(inexact), minuses: each(inexact)},
	{s: "0x1.002p0", plus: [5]uint64{0x3c00, 0x3c01, 0x3c00, 0x3c01, 0x3c00}, minus: [5]uint64{0xbc00, 0xbc01, 0xbc00, 0xbc00, 0xbc01}, pluses: each(inexact), minuses: each(inexact)},
	{s: "0x1.003p0", plus: [5]uint64{0x3c01, 0x3c01, 0x3c00, 0x3c01, 0x3c00}, minus: [5]uint64{0xbc01, 0xbc01, 0xbc00, 0xbc00, 0xbc01}, pluses: each(inexact), minuses: each(inexact)},
	// The middle above an odd neighbour, and just below and above it.
	{s: "0x1.006p0", plus: [5]uint64{0x3c02, 0x3c02, 0x3c01, 0x3c02, 0x3c01}, minus: [5]uint64{0xbc02, 0xbc02, 0xbc01, 0xbc01, 0xbc02}, pluses: each(inexact), minuses: each(inexact)},
	{s: "0x1.005ffffffffffffffffp0", plus: [5]uint64{0x3c01, 0x3c01, 0x3c01, 0x3c02, 0x3c01}, minus: [5]uint64{0xbc01, 0xbc01, 0xbc01, 0xbc01, 0xbc02}, pluses: each(inexact), minuses: each(inexact)},
	{s: "0x1.00200000000000000001p0", plus: [5]uint64{0x3c01, 0x3c01, 0x3c00, 0x3c01, 0x3c00}, minus: [5]uint64{0xbc01, 0xbc01, 0xbc00, 0xbc00, 0xbc01}, pluses: each(inexact), minuses: each(inexact)},
	// What is rounded up to 2^P.
	{s: "0xfffp0", plus: [5]uint64{0x6c00, 0x6c00, 0x6bff, 0x6c00, 0x6bff}, minus: [5]uint64{0xec00, 0xec00, 0xebff, 0xebff, 0xec00}, pluses: each(inexact), minuses: each(inexact)},
	// Half of the least one, just beside it, and far below.
	{s: "0x1p-25", plus: [5]uint64{0, 1, 0, 1, 0}, minus: [5]uint64{0x8000, 0x8001, 0x8000, 0x8000, 0x8001}, pluses: each(underflow), minuses: each(underflow)},
	{s: "0x.ffffffp-25", plus: [5]uint64{0, 0, 0, 1, 0}, minus: [5]uint64{0x8000, 0x8000, 0x8000, 0x8000, 0x8001}, pluses: each(underflow), minuses: each(underflow)},
	{s: "0x1.000001p-25", plus: [5]uint64{1, 1, 0, 1, 0}, minus: [5]uint64{0x8001, 0x8001, 0x8000, 0x8000, 0x8001}, pluses: each(underflow), minuses: each(underflow)},
	{s: "0x1p-99", plus: [5]uint64{0, 0, 0, 1, 0}, minus: [5]uint64{0x8000, 0x8000, 0x8000, 0x8000, 0x8001}, pluses: each(underflow), minuses: each(underflow)},
	// One and a half of the least one.
	{s: "0x1.8p-24", plus: [5]uint64{2, 2, 1, 2, 1}, minus: [5]uint64{0x8002, 0x8002, 0x8001, 0x8001, 0x8002}, pluses: each(underflow), minuses: each(underflow)},
	// Just below the least one of full length, which it is rounded to, and just above it.
	{s: "0x1.fffp-15", plus: [5]uint64{0x400, 0x400, 0x3ff, 0x400, 0x3ff}, minus: [5]uint64{0x8400, 0x8400, 0x83ff, 0x83ff, 0x8400}, pluses: each(underflow), minuses: each(underflow)},
	{s: "0x1.001p-14", plus: [5]uint64{0x400, 0x400, 0x400, 0x401, 0x400}, minus: [5]uint64{0x8400, 0x8400, 0x8400, 0x8400, 0x8401}, pluses: each(inexact), minuses: each(inexact)},
	// The greatest one, just below the bound, just at it, and beyond.
	{s: "0xffe0p0", plus: [5]uint64{0x7bff, 0x7bff, 0x7bff, 0x7bff, 0x7bff}, minus: [5]uint64{0xfbff, 0xfbff, 0xfbff, 0xfbff, 0xfbff}},
	{s: "0xffef.fp0", plus: [5]uint64{0x7bff, 0x7bff, 0x7bff, 0x7c00, 0x7bff}, minus: [5]uint64{0xfbff, 0xfbff, 0xfbff, 0xfbff, 0xfc00}, pluses: [5]int{inexact, inexact, inexact, overflow, inexact}, minuses: [5]int{inexact, inexact, inexact, inexact, overflow}},
	{s: "0xfff0p0", plus: [5]uint64{0x7c00, 0x7c00, 0x7bff, 0x7c00, 0x7bff}, minus: [5]uint64{0xfc00, 0xfc00, 0xfbff, 0xfbff, 0xfc00}, pluses: [5]int{overflow, overflow, inexact, overflow, inexact}, minuses: [5]int{overflow, overflow, inexact, inexact, overflow}},
	{s: "0x1p16", plus: [5]uint64{0x7c00, 0x7c00, 0x7bff, 0x7c00, 0x7bff}, minus: [5]uint64{0xfc00, 0xfc00, 0xfbff, 0xfbff, 0xfc00}, pluses: each(overflow), minuses: each(overflow)},
	{s: "0x1p999", plus: [5]uint64{0x7c00, 0x7c00, 0x7bff, 0x7c00, 0x7bff}, minus: [5]uint64{0xfc00, 0xfc00, 0xfbff, 0xfbff, 0xfc00}, pluses: each(overflow), minuses: each(overflow)},
}

// P11.1: rows written out by hand.
func TestP11_1_Directions(t *testing.T) {
	for _, c := range written {
		for i, direction := range directions {
			reads(t, api.Half, direction, c.s, api.Bits{c.plus[i]}, c.pluses[i])
			reads(t, api.Half, direction, "+"+c.s, api.Bits{c.plus[i]}, c.pluses[i])
			reads(t, api.Half, direction, "-"+c.s, api.Bits{c.minus[i]}, c.minuses[i])
		}
	}
}

// P11.1: the other formats, said without the oracle.
func TestP11_1_Formats(t *testing.T) {
	ones := uint64(math.MaxUint64)
	for _, c := range []struct {
		number, direction int
		s                 string
		b                 api.Bits
		flags             int
	}{
		{api.Brain, api.Even, "0x1.01p0", api.Bits{0x3f80}, inexact},
		{api.Brain, api.Away, "0x1.01p0", api.Bits{0x3f81}, inexact},
		{api.Brain, api.Even, "0x1.ffp127", api.Bits{0x7f80}, overflow},
		{api.Brain, api.Zero, "0x1.ffp127", api.Bits{0x7f7f}, inexact},
		{api.Brain, api.Zero, "0x1p128", api.Bits{0x7f7f}, overflow},
		{api.Brain, api.Down, "-0x1p-999", api.Bits{0x8001}, underflow},
		{api.Single, api.Even, "0x1.000001p0", api.Bits{0x3f800000}, inexact},
		{api.Single, api.Even, "0x1.000003p0", api.Bits{0x3f800002}, inexact},
		{api.Single, api.Even, "0x1.0000010000001p0", api.Bits{0x3f800001}, inexact},
		{api.Single, api.Even, "0x1.8p-150", api.Bits{1}, underflow},
		{api.Single, api.Even, "0x1.fffffefp127", api.Bits{0x7f7fffff}, inexact},
		{api.Single, api.Even, "0x1.ffffffp127", api.Bits{0x7f800000}, overflow},
		{api.Double, api.Even, "0x1.00000000000008p0", api.Bits{0x3ff0000000000000}, inexact},
		{api.Double, api.Even, "0x1.00000000000018p0", api.Bits{0x3ff0000000000002}, inexact},
		{api.Double, api.Down, "-0x1.00000000000001p0", api.Bits{0xbff0000000000001}, inexact},
		{api.Double, api.Even, "0x1p-1075", api.Bits{}, underflow},
		{api.Double, api.Away, "0x1p-1075", api.Bits{1}, underflow},
		{api.Double, api.Even, "0x1p1024", api.Bits{0x7ff0000000000000}, overflow},
		{api.Double, api.Down, "0x1p1024", api.Bits{0x7fefffffffffffff}, overflow},
		{api.Quad, api.Even, "0x1.00000000000000000000000000008p0", api.Bits{0, 0x3fff000000000000}, inexact},
		{api.Quad, api.Away, "0x1.00000000000000000000000000008p0", api.Bits{1, 0x3fff000000000000}, inexact},
		{api.Quad, api.Up, "0x1p-16495", api.Bits{1}, underflow},
		{api.Quad, api.Zero, "0x1p16384", api.Bits{ones, 0x7ffeffffffffffff}, overflow},
		{api.Octo, api.Even, "0x1." + strings.Repeat("0", 60) + "8p0", api.Bits{0, 0, 0, 0x3fff000000000000}, inexact},
		{api.Octo, api.Up, "0x1." + strings.Repeat("0", 900) + "8p0", api.Bits{1, 0, 0, 0x3fff000000000000}, inexact},
		{api.Octo, api.Even, "0x1p-16623", api.Bits{}, underflow},
		{api.Octo, api.Even, "0x1.1p-16623", api.Bits{1}, underflow},
		{api.Octo, api.Even, "-0x1p16384", api.Bits{0, 0, 0, 0xffff000000000000}, overflow},
	} {
		reads(t, c.number, c.direction, c.s, c.b, c.flags)
	}
}

// beside checks a pattern's number, the middle between it and the next one, and what lies just below and above both, by one that stands so many bits behind the middle's.
func (f format) beside(t *testing.T, pattern *big.Int, more int) {
	t.Helper()
	coef, exp := f.reading(pattern)
	for half := range int64(2) {
		at := plus(new(big.Int).Lsh(coef, 1), half)
		at.Lsh(at, uint(more))
		for step := int64(-1); step < 2; step++ {
			if n := plus(at, step); n.Sign() > 0 {
				f.check(t, n, exp-1-more)
			}
		}
	}
}

// P11.1: each format, at its numbers, at the middles between them, and just beside both.
func TestP11_1_Beside(t *testing.T) {
	counts := []uint64{30, 30, 60, 60, 40, 30}
	for i, f := range formats {
		t.Run(fmt.Sprint(f.number), func(t *testing.T) {
			t.Parallel()
			for i, pattern := range append(f.edges(), f.many(counts[i])...) {
				f.beside(t, pattern, 1+i%70)
				f.beside(t, pattern, 200*(i%12))
			}
			f.beside(t, new(big.Int), 3)
		})
	}
}

// P11.1: every number of Half and of Brain, every middle, and what lies just beside them.
func TestP11_1_BesideAllOfTheNarrow(t *testing.T) {
	for _, f := range formats[:2] {
		for piece := range int64(4) {
			t.Run(fmt.Sprint(f.number, piece), func(t *testing.T) {
				t.Parallel()
				for pattern := big.NewInt(piece); pattern.Cmp(f.infinity()) < 0; pattern = plus(pattern, 4) {
					f.beside(t, pattern, 1)
				}
			})
		}
	}
}

// P11.1: digits of all kinds of sizes, with every exponent that brings them near a format's numbers and some way beyond.
func TestP11_1_Scattered(t *testing.T) {
	for _, f := range formats {
		t.Run(fmt.Sprint(f.number), func(t *testing.T) {
			t.Parallel()
			low, high := f.least-40, f.most+f.precision+40
			for seed := range uint64(1500) {
				bits := 1 + int(scattered(seed)%300)
				if seed%50 == 0 {
					bits = 1 + int(scattered(seed)%15000)
				}
				coef := plus(drawn(seed, two(bits)), 1)
				f.check(t, coef, low+int(scattered(seed+9000)%uint64(high-low))-bits)
			}
		})
	}
}

// P11.1: a text as a format writes it, read into every other format.
func TestP11_1_OfOtherFormats(t *testing.T) {
	for _, f := range formats {
		for _, g := range formats {
			for _, pattern := range append(g.edges(), g.many(20)...) {
				coef, exp := g.reading(pattern)
				f.checkTexts(t, coef, exp, g.text(pattern))
			}
		}
	}
}

// P11.1: to the nearest, the language's own reading comes to the same.
func TestP11_1_ReadNative(t *testing.T) {
	for seed := range uint64(20000) {
		bits := 1 + int(scattered(seed)%120)
		digits := plus(drawn(seed, two(bits)), 1).Text(16)
		point := int(scattered(seed+5000) % uint64(len(digits)+1))
		s := "0x" + digits[:point] + "." + digits[point:] + "p" + strconv.Itoa(int(scattered(seed+70000)%2300)-1200)
		narrow, _ := strconv.ParseFloat(s, 32)
		broad, _ := strconv.ParseFloat(s, 64)
		b, _, errno := hexform.Read(api.Single, api.Even, s)
		if b != (api.Bits{uint64(math.Float32bits(float32(narrow)))}) || errno != api.OK {
			t.Errorf("%s: %x %d, not %v", s, b, errno, narrow)
		}
		b, _, errno = hexform.Read(api.Double, api.Even, s)
		if b != (api.Bits{math.Float64bits(broad)}) || errno != api.OK {
			t.Errorf("%s: %x %d, not %v", s, b, errno, broad)
		}
	}
}

// P11.1: a hexadecimal text's number is the one of a decimal text that says the same.
func TestP11_1_SameAsDecimal(t *testing.T) {
	for _, f := range formats {
		for seed := range uint64(200) {
			n := plus(drawn(seed, two(1+int(seed)*3)), 1)
			for _, direction := range directions {
				want, wantFlags, _ := readbin.Read(f.number, direction, n.String())
				reads(t, f.number, direction, "0x"+n.Text(16)+"p0", want, wantFlags)
			}
		}
	}
}

// sameAsMake fails unless a text of what isn't finite is read as layer 8 makes its parts.
func sameAsMake(t *testing.T, f format, s string) {
	t.Helper()
	p, wrong := grammar.Cut(s)
	for _, direction := range directions {
		want, flags, errno := readbin.Make(f.number, direction, p)
		if wrong != api.OK || errno != api.OK || flags != 0 || p.Class == api.Finite {
			t.Fatalf("%s is no such text", brief(s))
		}
		reads(t, f.number, direction, s, want, 0)
	}
}

// P11.1: infinities and NaNs, with payloads up to the greatest that fits, and with greater ones.
func TestP11_1_ReadOthers(t *testing.T) {
	for _, f := range formats {
		beyond := two(f.precision - 2)
		digits := []string{"0", "000", "1", "007", "63", "64", plus(beyond, -1).String(), beyond.String(), plus(beyond, 1).String(), two(f.precision).String(), two(256).String(), two(3000).String(), strings.Repeat("0", 3900) + "5", strings.Repeat("9", api.MostText-7)}
		for _, sign := range []string{"", "+", "-"} {
			for _, s := range []string{"inf", "infinity", "INF", "Infinity", "iNfInItY"} {
				sameAsMake(t, f, sign+s)
				reads(t, f.number, api.Even, sign+s, f.signed(f.infinity(), sign == "-"), 0)
			}
			for _, s := range []string{"nan", "NaN", "snan", "sNaN", "SNAN"} {
				sameAsMake(t, f, sign+s)
				for _, payload := range digits {
					sameAsMake(t, f, sign+s+"("+payload+")")
				}
			}
		}
	}
}

// P11.1: NaNs said without layer 8.
func TestP11_1_ReadNaNs(t *testing.T) {
	for _, c := range []struct {
		number int
		s      string
		b      api.Bits
	}{
		{api.Half, "nan", api.Bits{0x7e00}},
		{api.Half, "-nan(511)", api.Bits{0xffff}},
		{api.Half, "nan(512)", api.Bits{0x7e00}},
		{api.Half, "snan", api.Bits{0x7c01}},
		{api.Half, "snan(0)", api.Bits{0x7c01}},
		{api.Half, "-snan(512)", api.Bits{0xfc01}},
		{api.Brain, "+nan(63)", api.Bits{0x7fff}},
		{api.Brain, "nan(64)", api.Bits{0x7fc0}},
		{api.Single, "sNaN(4194303)", api.Bits{0x7fbfffff}},
		{api.Double, "-snan(2251799813685248)", api.Bits{0xfff0000000000001}},
		{api.Quad, "nan(18446744073709551616)", api.Bits{0, 0x7fff800000000001}},
	} {
		back(t, c.number, c.s, c.b)
	}
}
