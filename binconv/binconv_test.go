package binconv_test

import (
	"fmt"
	"math"
	"math/big"
	"testing"

	"caliper/api"
	"caliper/binary"
	"caliper/binconv"
	"caliper/desc"
)

// P12.1: the chapter's examples.
func TestExamples(t *testing.T) {
	converts(t, api.Double, api.Single, api.Even, api.Bits{0x3fb999999999999a}, api.Bits{0x3dcccccd}, inexact)
	b, flags, errno := binconv.Convert(api.Single, api.Half, api.Even, api.Bits{0x7f800001})
	d, _ := binary.Unpack(api.Half, b)
	if d != (api.Datum{Class: api.NaN, Coef: api.Bits{1}}) || flags != invalid || errno != api.OK {
		t.Errorf("%+v %d %d", d, flags, errno)
	}
}

// row is a pattern of Single without sign, and what it is in Half in each of the five directions, in their order: as it is, and with the sign.
type row struct {
	b               uint64
	plus, minus     [5]uint64
	pluses, minuses [5]int
}

// each says one flag sum for all directions.
func each(flags int) [5]int { return [5]int{flags, flags, flags, flags, flags} }

// same says one pattern for all directions.
func same(b uint64) [5]uint64 { return [5]uint64{b, b, b, b, b} }

// The rows are worked out by hand from DOC.md's words: they don't hang on the oracle.
var written = []row{
	// A quarter of the way between two, just below the middle above an even neighbour, there, just above it, and three quarters of the way.
	{b: 0x3f800800, plus: [5]uint64{0x3c00, 0x3c00, 0x3c00, 0x3c01, 0x3c00}, minus: [5]uint64{0xbc00, 0xbc00, 0xbc00, 0xbc00, 0xbc01}, pluses: each(inexact), minuses: each(inexact)},
	{b: 0x3f800fff, plus: [5]uint64{0x3c00, 0x3c00, 0x3c00, 0x3c01, 0x3c00}, minus: [5]uint64{0xbc00, 0xbc00, 0xbc00, 0xbc00, 0xbc01}, pluses: each(inexact), minuses: each(inexact)},
	{b: 0x3f801000, plus: [5]uint64{0x3c00, 0x3c01, 0x3c00, 0x3c01, 0x3c00}, minus: [5]uint64{0xbc00, 0xbc01, 0xbc00, 0xbc00, 0xbc01}, pluses: each(inexact), minuses: each(inexact)},
	{b: 0x3f801001, plus: [5]uint64{0x3c01, 0x3c01, 0x3c00, 0x3c01, 0x3c00}, minus: [5]uint64{0xbc01, 0xbc01, 0xbc00, 0xbc00, 0xbc01}, pluses: each(inexact), minuses: each(inexact)},
	{b: 0x3f801800, plus: [5]uint64{0x3c01, 0x3c01, 0x3c00, 0x3c01, 0x3c00}, minus: [5]uint64{0xbc01, 0xbc01, 0xbc00, 0xbc00, 0xbc01}, pluses: each(inexact), minuses: each(inexact)},
	// The middle above an odd neighbour, and just beside it.
	{b: 0x3f802fff, plus: [5]uint64{0x3c01, 0x3c01, 0x3c01, 0x3c02, 0x3c01}, minus: [5]uint64{0xbc01, 0xbc01, 0xbc01, 0xbc01, 0xbc02}, pluses: each(inexact), minuses: each(inexact)},
	{b: 0x3f803000, plus: [5]uint64{0x3c02, 0x3c02, 0x3c01, 0x3c02, 0x3c01}, minus: [5]uint64{0xbc02, 0xbc02, 0xbc01, 0xbc01, 0xbc02}, pluses: each(inexact), minuses: each(inexact)},
	{b: 0x3f803001, plus: [5]uint64{0x3c02, 0x3c02, 0x3c01, 0x3c02, 0x3c01}, minus: [5]uint64{0xbc02, 0xbc02, 0xbc01, 0xbc01, 0xbc02}, pluses: each(inexact), minuses: each(inexact)},
	// 4095 is rounded up to the next power of two.
	{b: 0x457ff000, plus: [5]uint64{0x6c00, 0x6c00, 0x6bff, 0x6c00, 0x6bff}, minus: [5]uint64{0xec00, 0xec00, 0xebff, 0xebff, 0xec00}, pluses: each(inexact), minuses: each(inexact)},
	// Half of the least one, just beside it, far below, and the least one of Single.
	{b: 0x33000000, plus: [5]uint64{0, 1, 0, 1, 0}, minus: [5]uint64{0x8000, 0x8001, 0x8000, 0x8000, 0x8001}, pluses: each(underflow), minuses: each(underflow)},
	{b: 0x32ffffff, plus: [5]uint64{0, 0, 0, 1, 0}, minus: [5]uint64{0x8000, 0x8000, 0x8000, 0x8000, 0x8001}, pluses: each(underflow), minuses: each(underflow)},
	{b: 0x33000001, plus: [5]uint64{1, 1, 0, 1, 0}, minus: [5]uint64{0x8001, 0x8001, 0x8000, 0x8000, 0x8001}, pluses: each(underflow), minuses: each(underflow)},
	{b: 0x0e000000, plus: [5]uint64{0, 0, 0, 1, 0}, minus: [5]uint64{0x8000, 0x8000, 0x8000, 0x8000, 0x8001}, pluses: each(underflow), minuses: each(underflow)},
	{b: 0x00000001, plus: [5]uint64{0, 0, 0, 1, 0}, minus: [5]uint64{0x8000, 0x8000, 0x8000, 0x8000, 0x8001}, pluses: each(underflow), minuses: each(underflow)},
	// The least one, one and a half of it, and others that are subnormal there.
	{b: 0x33800000, plus: same(1), minus: same(0x8001)},
	{b: 0x33c00000, plus: [5]uint64{2, 2, 1, 2, 1}, minus: [5]uint64{0x8002, 0x8002, 0x8001, 0x8001, 0x8002}, pluses: each(underflow), minuses: each(underflow)},
	{b: 0x38000000, plus: same(0x200), minus: same(0x8200)},
	{b: 0x387fc000, plus: same(0x3ff), minus: same(0x83ff)},
	// Just below the least one of full length, which it is rounded to, that one, and just above it.
	{b: 0x387ff800, plus: [5]uint64{0x400, 0x400, 0x3ff, 0x400, 0x3ff}, minus: [5]uint64{0x8400, 0x8400, 0x83ff, 0x83ff, 0x8400}, pluses: each(underflow), minuses: each(underflow)},
	{b: 0x38800000, plus: same(0x400), minus: same(0x8400)},
	{b: 0x38800800, plus: [5]uint64{0x400, 0x400, 0x400, 0x401, 0x400}, minus: [5]uint64{0x8400, 0x8400, 0x8400, 0x8400, 0x8401}, pluses: each(inexact), minuses: each(inexact)},
	// Numbers that come out exactly: 1, 1 + 2^-10, 3, and the greatest one.
	{b: 0x3f800000, plus: same(0x3c00), minus: same(0xbc00)},
	{b: 0x3f802000, plus: same(0x3c01), minus: same(0xbc01)},
	{b: 0x40400000, plus: same(0x4200), minus: same(0xc200)},
	{b: 0x477fe000, plus: same(0x7bff), minus: same(0xfbff)},
	// Just below what is rounded up until it overflows, that, 2^16, and the greatest one of Single.
	{b: 0x477fefff, plus: [5]uint64{0x7bff, 0x7bff, 0x7bff, 0x7c00, 0x7bff}, minus: [5]uint64{0xfbff, 0xfbff, 0xfbff, 0xfbff, 0xfc00}, pluses: [5]int{inexact, inexact, inexact, overflow, inexact}, minuses: [5]int{inexact, inexact, inexact, inexact, overflow}},
	{b: 0x477ff000, plus: [5]uint64{0x7c00, 0x7c00, 0x7bff, 0x7c00, 0x7bff}, minus: [5]uint64{0xfc00, 0xfc00, 0xfbff, 0xfbff, 0xfc00}, pluses: [5]int{overflow, overflow, inexact, overflow, inexact}, minuses: [5]int{overflow, overflow, inexact, inexact, overflow}},
	{b: 0x47800000, plus: [5]uint64{0x7c00, 0x7c00, 0x7bff, 0x7c00, 0x7bff}, minus: [5]uint64{0xfc00, 0xfc00, 0xfbff, 0xfbff, 0xfc00}, pluses: each(overflow), minuses: each(overflow)},
	{b: 0x7f7fffff, plus: [5]uint64{0x7c00, 0x7c00, 0x7bff, 0x7c00, 0x7bff}, minus: [5]uint64{0xfc00, 0xfc00, 0xfbff, 0xfbff, 0xfc00}, pluses: each(overflow), minuses: each(overflow)},
	// 0 and infinity; NaNs with the payloads 0, 1, the greatest that fits, one more, and the greatest of Single, quiet ones and signalling ones.
	{b: 0x00000000, plus: same(0x0000), minus: same(0x8000)},
	{b: 0x7f800000, plus: same(0x7c00), minus: same(0xfc00)},
	{b: 0x7fc00000, plus: same(0x7e00), minus: same(0xfe00)},
	{b: 0x7fc00001, plus: same(0x7e01), minus: same(0xfe01)},
	{b: 0x7fc001ff, plus: same(0x7fff), minus: same(0xffff)},
	{b: 0x7fc00200, plus: same(0x7e00), minus: same(0xfe00)},
	{b: 0x7fffffff, plus: same(0x7e00), minus: same(0xfe00)},
	{b: 0x7f800001, plus: same(0x7e01), minus: same(0xfe01), pluses: each(invalid), minuses: each(invalid)},
	{b: 0x7f8001ff, plus: same(0x7fff), minus: same(0xffff), pluses: each(invalid), minuses: each(invalid)},
	{b: 0x7f800200, plus: same(0x7e00), minus: same(0xfe00), pluses: each(invalid), minuses: each(invalid)},
	{b: 0x7fbfffff, plus: same(0x7e00), minus: same(0xfe00), pluses: each(invalid), minuses: each(invalid)},
}

// P12.1: rows written out by hand.
func TestP12_1_Directions(t *testing.T) {
	for _, c := range written {
		for i, direction := range directions {
			converts(t, api.Single, api.Half, direction, api.Bits{c.b}, api.Bits{c.plus[i]}, c.pluses[i])
			converts(t, api.Single, api.Half, direction, api.Bits{c.b + 1<<31}, api.Bits{c.minus[i]}, c.minuses[i])
		}
	}
}

// P12.1: other formats, said without the oracle.
func TestP12_1_Formats(t *testing.T) {
	ones := uint64(math.MaxUint64)
	for _, c := range []struct {
		from, to, direction int
		b, want             api.Bits
		flags               int
	}{
		// One, from each to the next one, and on to the first.
		{api.Half, api.Brain, api.Up, api.Bits{0x3c00}, api.Bits{0x3f80}, 0},
		{api.Brain, api.Single, api.Up, api.Bits{0x3f80}, api.Bits{0x3f800000}, 0},
		{api.Single, api.Double, api.Up, api.Bits{0x3f800000}, api.Bits{0x3ff0000000000000}, 0},
		{api.Double, api.Quad, api.Up, api.Bits{0x3ff0000000000000}, api.Bits{0, 0x3fff000000000000}, 0},
		{api.Quad, api.Octo, api.Up, api.Bits{0, 0x3fff000000000000}, api.Bits{0, 0, 0, 0x3fff000000000000}, 0},
		{api.Octo, api.Half, api.Up, api.Bits{0, 0, 0, 0x3fff000000000000}, api.Bits{0x3c00}, 0},
		// Neither Half nor Brain holds the other.
		{api.Half, api.Brain, api.Even, api.Bits{0x7bff}, api.Bits{0x4780}, inexact},
		{api.Half, api.Brain, api.Zero, api.Bits{0x7bff}, api.Bits{0x477f}, inexact},
		{api.Half, api.Brain, api.Even, api.Bits{1}, api.Bits{0x3380}, 0},
		{api.Brain, api.Half, api.Even, api.Bits{0x4780}, api.Bits{0x7c00}, overflow},
		{api.Brain, api.Half, api.Zero, api.Bits{0x4780}, api.Bits{0x7bff}, overflow},
		{api.Brain, api.Half, api.Even, api.Bits{1}, api.Bits{}, underflow},
		{api.Brain, api.Half, api.Down, api.Bits{0x8001}, api.Bits{0x8001}, underflow},
		// What is subnormal in one and not in the other.
		{api.Half, api.Single, api.Even, api.Bits{0x3ff}, api.Bits{0x387fc000}, 0},
		{api.Single, api.Double, api.Even, api.Bits{1}, api.Bits{0x36a0000000000000}, 0},
		{api.Single, api.Double, api.Even, api.Bits{0x007fffff}, api.Bits{0x380fffffc0000000}, 0},
		{api.Brain, api.Single, api.Even, api.Bits{1}, api.Bits{0x10000}, 0},
		{api.Quad, api.Octo, api.Even, api.Bits{1}, api.Bits{0, 0, 1}, 0},
		{api.Octo, api.Quad, api.Even, api.Bits{1}, api.Bits{}, underflow},
		{api.Octo, api.Quad, api.Up, api.Bits{1}, api.Bits{1}, underflow},
		{api.Double, api.Single, api.Even, api.Bits{0x36a0000000000000}, api.Bits{1}, 0},
		{api.Double, api.Single, api.Even, api.Bits{0x3690000000000000}, api.Bits{}, underflow},
		{api.Double, api.Single, api.Away, api.Bits{0x3690000000000000}, api.Bits{1}, underflow},
		// The greatest ones.
		{api.Single, api.Double, api.Even, api.Bits{0x7f7fffff}, api.Bits{0x47efffffe0000000}, 0},
		{api.Double, api.Single, api.Even, api.Bits{0x47efffffe0000000}, api.Bits{0x7f7fffff}, 0},
		{api.Double, api.Single, api.Even, api.Bits{0x47efffffefffffff}, api.Bits{0x7f7fffff}, inexact},
		{api.Double, api.Single, api.Even, api.Bits{0x47effffff0000000}, api.Bits{0x7f800000}, overflow},
		{api.Double, api.Single, api.Zero, api.Bits{0x47effffff0000000}, api.Bits{0x7f7fffff}, inexact},
		{api.Double, api.Single, api.Zero, api.Bits{0x47f0000000000000}, api.Bits{0x7f7fffff}, overflow},
		{api.Quad, api.Octo, api.Down, api.Bits{ones, 0x7ffeffffffffffff}, api.Bits{0, 0, ones, 0x7ffeffffffffffff}, 0},
		{api.Octo, api.Quad, api.Even, api.Bits{0, 0, ones, 0x7ffeffffffffffff}, api.Bits{ones, 0x7ffeffffffffffff}, 0},
		{api.Octo, api.Quad, api.Even, api.Bits{ones, ones, ones, 0x7ffeffffffffffff}, api.Bits{0, 0x7fff000000000000}, overflow},
		{api.Octo, api.Quad, api.Down, api.Bits{ones, ones, ones, 0x7ffeffffffffffff}, api.Bits{ones, 0x7ffeffffffffffff}, inexact},
		// Infinities and noughts.
		{api.Octo, api.Half, api.Zero, api.Bits{0, 0, 0, 0x7fff000000000000}, api.Bits{0x7c00}, 0},
		{api.Octo, api.Half, api.Up, api.Bits{0, 0, 0, 0xffff000000000000}, api.Bits{0xfc00}, 0},
		{api.Half, api.Octo, api.Down, api.Bits{0x7c00}, api.Bits{0, 0, 0, 0x7fff000000000000}, 0},
		{api.Half, api.Octo, api.Up, api.Bits{0x8000}, api.Bits{0, 0, 0, 1 << 63}, 0},
		{api.Octo, api.Half, api.Down, api.Bits{}, api.Bits{}, 0},
		// NaNs: the payload stands at the low end.
		{api.Half, api.Octo, api.Even, api.Bits{0xfdff}, api.Bits{0x1ff, 0, 0, 0xffff800000000000}, invalid},
		{api.Octo, api.Quad, api.Even, api.Bits{ones, 0x7fffffffffff, 0, 0x7fff000000000000}, api.Bits{ones, 0x7fffffffffffffff}, invalid},
		{api.Octo, api.Quad, api.Even, api.Bits{0, 0x800000000000, 0, 0x7fff000000000000}, api.Bits{0, 0x7fff800000000000}, invalid},
		{api.Octo, api.Half, api.Even, api.Bits{0, 0, 0, 0x7fffc00000000000}, api.Bits{0x7e00}, 0},
		{api.Octo, api.Double, api.Even, api.Bits{5, 0, 1, 0xffff800000000000}, api.Bits{0xfff8000000000000}, 0},
		{api.Brain, api.Half, api.Even, api.Bits{0x7fff}, api.Bits{0x7e3f}, 0},
		{api.Half, api.Brain, api.Even, api.Bits{0x7e3f}, api.Bits{0x7fff}, 0},
		{api.Half, api.Brain, api.Even, api.Bits{0x7e40}, api.Bits{0x7fc0}, 0},
		{api.Half, api.Half, api.Even, api.Bits{0x7c40}, api.Bits{0x7e40}, invalid},
	} {
		converts(t, c.from, c.to, c.direction, c.b, c.want, c.flags)
	}
}

// P12.1: every format into every one, as the oracle has it: all patterns of the two smallest ones, of the others edges, single bits at every place, and many drawn ones.
func TestP12_1_Patterns(t *testing.T) {
	for _, f := range formats {
		t.Run(fmt.Sprint(f.number), func(t *testing.T) {
			t.Parallel()
			for _, pattern := range f.patterns() {
				f.goes(t, pattern)
			}
		})
	}
}

// P12.1: all powers of two, of the widest formats every seventh one and those near some format's bounds.
func TestP12_1_Powers(t *testing.T) {
	for _, f := range formats {
		t.Run(fmt.Sprint(f.number), func(t *testing.T) {
			t.Parallel()
			for n := f.least; n < f.most+f.precision; n++ {
				if f.width < 128 || n%7 == 0 || n > -1200 && n < 1200 && n%3 == 0 {
					f.goes(t, f.power(n))
				}
			}
		})
	}
}

// P12.1: noughts and infinities of both signs have no flags, in any direction.
func TestP12_1_NoughtsAndInfinities(t *testing.T) {
	for _, f := range formats {
		for _, g := range formats {
			for _, sign := range bothSigns {
				always(t, f.number, g.number, f.signed(new(big.Int), sign), g.signed(new(big.Int), sign), 0)
				always(t, f.number, g.number, f.signed(f.infinity(), sign), g.signed(g.infinity(), sign), 0)
			}
		}
	}
}

// payloads are those of a format at its own edges and at the other one's, and single bits at every place.
func (f format) payloads(g format) []*big.Int {
	var list []*big.Int
	for _, bits := range []int{f.precision - 2, g.precision - 2} {
		for more := int64(-3); more < 4; more++ {
			list = append(list, plus(two(bits), more))
		}
	}
	for n := range f.precision - 2 {
		list = append(list, two(n), plus(two(n), -1))
	}
	var within []*big.Int
	for _, payload := range list {
		if payload.BitLen() <= f.precision-2 {
			within = append(within, payload)
		}
	}
	return within
}

// P12.1: NaNs quiet and signalling, of both signs: the payload stays, or is 0 where it is too great; just Invalid of those that signalled.
func TestP12_1_NaNs(t *testing.T) {
	for _, f := range formats {
		for _, g := range formats {
			kept, lost := 0, 0
			for _, payload := range f.payloads(g) {
				want := payload
				if payload.BitLen() > g.precision-2 {
					want = new(big.Int)
					lost++
				} else {
					kept++
				}
				for _, sign := range bothSigns {
					wanted := g.signed(g.nan(want, false), sign)
					always(t, f.number, g.number, f.signed(f.nan(payload, false), sign), wanted, 0)
					if payload.Sign() != 0 {
						always(t, f.number, g.number, f.signed(f.nan(payload, true), sign), wanted, invalid)
					}
				}
			}
			if kept == 0 || (lost == 0) != (g.precision >= f.precision) {
				t.Errorf("%d to %d: %d payloads are kept, %d are lost", f.number, g.number, kept, lost)
			}
		}
	}
}

// P12.1: what lies just in the middle of two neighbours, just below it and just above it, without the oracle's rounding.
func TestP12_1_Middles(t *testing.T) {
	for _, f := range formats {
		for _, g := range formats {
			if f.precision <= g.precision {
				continue
			}
			tried := 0
			for _, low := range append(g.edges(), g.many(60)...) {
				if low.Cmp(g.infinity()) >= 0 {
					continue
				}
				coef, exp := g.reading(low)
				middle := f.placed(plus(new(big.Int).Lsh(coef, 1), 1), exp-1)
				if !middle.exact || middle.exp > f.most {
					continue
				}
				tried++
				at := f.pattern(middle.coef, middle.exp)
				f.beside(t, g, low, plus(at, -1), low, low)
				f.beside(t, g, low, at, new(big.Int).Add(low, new(big.Int).And(low, big.NewInt(1))), plus(low, 1))
				f.beside(t, g, low, plus(at, 1), plus(low, 1), plus(low, 1))
			}
			if tried < 30 {
				t.Errorf("%d to %d: only %d middles", f.number, g.number, tried)
			}
		}
	}
}

// beside fails unless a pattern whose number lies between another format's low and the next one becomes even or away where the nearest is asked for, and else what lies that way.
func (f format) beside(t *testing.T, g format, low, pattern, even, away *big.Int) {
	t.Helper()
	for _, sign := range bothSigns {
		up, down := plus(low, 1), low
		if sign {
			up, down = down, up
		}
		for i, want := range []*big.Int{even, away, low, up, down} {
			flags := inexact
			if want.Cmp(g.infinity()) == 0 {
				flags = overflow
			} else if low.BitLen() < g.precision {
				flags = underflow
			}
			converts(t, f.number, g.number, directions[i], f.signed(pattern, sign), g.signed(want, sign), flags)
		}
	}
}

// P12.1: Single and Double, to the nearest, as the language does it.
func TestP12_1_Language(t *testing.T) {
	single, double := formats[2], formats[3]
	for _, pattern := range append(double.patterns(), double.many(20000)...) {
		if pattern.Cmp(double.infinity()) > 0 {
			continue
		}
		for _, sign := range bothSigns {
			b := double.signed(pattern, sign)
			want := math.Float32bits(float32(math.Float64frombits(b[0])))
			got, _, errno := binconv.Convert(api.Double, api.Single, api.Even, b)
			if got != (api.Bits{uint64(want)}) || errno != api.OK {
				t.Errorf("%x: %x %d, not %x", b, got, errno, want)
			}
		}
	}
	for _, pattern := range append(single.patterns(), single.many(20000)...) {
		if pattern.Cmp(single.infinity()) > 0 {
			continue
		}
		for _, sign := range bothSigns {
			b := single.signed(pattern, sign)
			want := math.Float64bits(float64(math.Float32frombits(uint32(b[0]))))
			converts(t, api.Single, api.Double, api.Even, b, api.Bits{want}, 0)
		}
	}
}

// P12.2: the table of holders is layer 4's.
func TestHolders(t *testing.T) {
	for i, f := range formats {
		held := 0
		for _, g := range holders[i] {
			if desc.Holds(f.number, g.number) {
				held++
			}
		}
		all := 0
		for _, g := range formats {
			if desc.Holds(f.number, g.number) {
				all++
			}
		}
		if held != len(holders[i]) || all != held {
			t.Errorf("%d: %d of %d, %d in all", f.number, held, len(holders[i]), all)
		}
	}
}

// P12.2: into a format that holds the first one, in every direction, and back in every direction.
func TestP12_2_Back(t *testing.T) {
	for i, f := range formats {
		t.Run(fmt.Sprint(f.number), func(t *testing.T) {
			t.Parallel()
			for n, pattern := range f.patterns() {
				for _, sign := range bothSigns {
					b := f.signed(pattern, sign)
					for _, g := range holders[i] {
						f.back(t, g, b, n)
					}
				}
			}
		})
	}
}

// back fails unless a pattern comes back from a format that holds its own. The direction in goes with n, those back are all.
func (f format) back(t *testing.T, g format, b api.Bits, n int) {
	t.Helper()
	wantFlags := 0
	if d, _ := binary.Unpack(f.number, b); d.Signal {
		wantFlags = invalid
	}
	there, flags, errno := binconv.Convert(f.number, g.number, directions[n%len(directions)], b)
	if flags != wantFlags || errno != api.OK {
		t.Errorf("Convert(%d, %d, %x): %x %d %d", f.number, g.number, b, there, flags, errno)
	}
	still, _ := binary.Quiet(f.number, b)
	always(t, g.number, f.number, there, still, 0)
}

// P12.3: by a format between that holds the first one, into any format, the same pattern and the same flags as at once.
func TestP12_3_Between(t *testing.T) {
	for i, f := range formats {
		t.Run(fmt.Sprint(f.number), func(t *testing.T) {
			t.Parallel()
			for n, pattern := range f.patterns() {
				b := f.signed(pattern, scattered(uint64(n))%2 == 0)
				for j, g := range holders[i] {
					for k, h := range formats {
						direction := directions[(n+j+k)%len(directions)]
						f.between(t, g, h, direction, directions[(n+k)%len(directions)], b)
					}
				}
			}
		})
	}
}

// P12.3: the edges in all directions, those of the first conversion and of the second.
func TestP12_3_BetweenEdges(t *testing.T) {
	for i, f := range formats {
		t.Run(fmt.Sprint(f.number), func(t *testing.T) {
			t.Parallel()
			for _, pattern := range f.edges() {
				for _, sign := range bothSigns {
					for _, g := range holders[i] {
						for _, h := range formats {
							for _, first := range directions {
								for _, second := range directions {
									f.between(t, g, h, first, second, f.signed(pattern, sign))
								}
							}
						}
					}
				}
			}
		})
	}
}

// between fails unless two conversions come to the same as the second one alone.
func (f format) between(t *testing.T, g, h format, first, second int, b api.Bits) {
	t.Helper()
	there, flags, errno := binconv.Convert(f.number, g.number, first, b)
	if errno != api.OK {
		t.Errorf("Convert(%d, %d, %d, %x): %d", f.number, g.number, first, b, errno)
	}
	got, more, errno := binconv.Convert(g.number, h.number, second, there)
	want, wantFlags, _ := binconv.Convert(f.number, h.number, second, b)
	if got != want || flags|more != wantFlags || errno != api.OK {
		t.Errorf("%x from %d by %d to %d, %d, %d: %x %d %d, not %x %d", b, f.number, g.number, h.number, first, second, got, flags|more, errno, want, wantFlags)
	}
}
