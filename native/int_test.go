package native_test

import (
	"fmt"
	"math"
	"testing"

	"caliper/api"
	"caliper/native"
)

// row is a whole number above 0, and what it is in each of the five directions, in their order: as it is, and with the sign.
type row struct {
	number      int
	n           int64
	plus, minus [5]uint64
	pluses      [5]int
	minuses     [5]int
}

// each says one flag sum for all directions.
func each(flags int) [5]int { return [5]int{flags, flags, flags, flags, flags} }

// same says one pattern for all directions.
func same(b uint64) [5]uint64 { return [5]uint64{b, b, b, b, b} }

// The rows are worked out by hand from DOC.md's words: they don't hang on the oracle.
var written = []row{
	// Half: numbers that it has, its greatest one among them.
	{number: api.Half, n: 1, plus: same(0x3c00), minus: same(0xbc00)},
	{number: api.Half, n: 2, plus: same(0x4000), minus: same(0xc000)},
	{number: api.Half, n: 3, plus: same(0x4200), minus: same(0xc200)},
	{number: api.Half, n: 2047, plus: same(0x67ff), minus: same(0xe7ff)},
	{number: api.Half, n: 2048, plus: same(0x6800), minus: same(0xe800)},
	{number: api.Half, n: 2050, plus: same(0x6801), minus: same(0xe801)},
	{number: api.Half, n: 65504, plus: same(0x7bff), minus: same(0xfbff)},
	// The middle above an even one, and above an odd one.
	{number: api.Half, n: 2049, plus: [5]uint64{0x6800, 0x6801, 0x6800, 0x6801, 0x6800}, minus: [5]uint64{0xe800, 0xe801, 0xe800, 0xe800, 0xe801}, pluses: each(inexact), minuses: each(inexact)},
	{number: api.Half, n: 2051, plus: [5]uint64{0x6802, 0x6802, 0x6801, 0x6802, 0x6801}, minus: [5]uint64{0xe802, 0xe802, 0xe801, 0xe801, 0xe802}, pluses: each(inexact), minuses: each(inexact)},
	// A quarter of the way, three quarters, and what is rounded up to a power of two.
	{number: api.Half, n: 4097, plus: [5]uint64{0x6c00, 0x6c00, 0x6c00, 0x6c01, 0x6c00}, minus: [5]uint64{0xec00, 0xec00, 0xec00, 0xec00, 0xec01}, pluses: each(inexact), minuses: each(inexact)},
	{number: api.Half, n: 4099, plus: [5]uint64{0x6c01, 0x6c01, 0x6c00, 0x6c01, 0x6c00}, minus: [5]uint64{0xec01, 0xec01, 0xec00, 0xec00, 0xec01}, pluses: each(inexact), minuses: each(inexact)},
	{number: api.Half, n: 4095, plus: [5]uint64{0x6c00, 0x6c00, 0x6bff, 0x6c00, 0x6bff}, minus: [5]uint64{0xec00, 0xec00, 0xebff, 0xebff, 0xec00}, pluses: each(inexact), minuses: each(inexact)},
	// Above the greatest one: below the middle above it, there, above it, and what is too great in every direction.
	{number: api.Half, n: 65505, plus: [5]uint64{0x7bff, 0x7bff, 0x7bff, 0x7c00, 0x7bff}, minus: [5]uint64{0xfbff, 0xfbff, 0xfbff, 0xfbff, 0xfc00}, pluses: [5]int{inexact, inexact, inexact, overflow, inexact}, minuses: [5]int{inexact, inexact, inexact, inexact, overflow}},
	{number: api.Half, n: 65519, plus: [5]uint64{0x7bff, 0x7bff, 0x7bff, 0x7c00, 0x7bff}, minus: [5]uint64{0xfbff, 0xfbff, 0xfbff, 0xfbff, 0xfc00}, pluses: [5]int{inexact, inexact, inexact, overflow, inexact}, minuses: [5]int{inexact, inexact, inexact, inexact, overflow}},
	{number: api.Half, n: 65520, plus: [5]uint64{0x7c00, 0x7c00, 0x7bff, 0x7c00, 0x7bff}, minus: [5]uint64{0xfc00, 0xfc00, 0xfbff, 0xfbff, 0xfc00}, pluses: [5]int{overflow, overflow, inexact, overflow, inexact}, minuses: [5]int{overflow, overflow, inexact, inexact, overflow}},
	{number: api.Half, n: 65535, plus: [5]uint64{0x7c00, 0x7c00, 0x7bff, 0x7c00, 0x7bff}, minus: [5]uint64{0xfc00, 0xfc00, 0xfbff, 0xfbff, 0xfc00}, pluses: [5]int{overflow, overflow, inexact, overflow, inexact}, minuses: [5]int{overflow, overflow, inexact, inexact, overflow}},
	{number: api.Half, n: 65536, plus: [5]uint64{0x7c00, 0x7c00, 0x7bff, 0x7c00, 0x7bff}, minus: [5]uint64{0xfc00, 0xfc00, 0xfbff, 0xfbff, 0xfc00}, pluses: each(overflow), minuses: each(overflow)},
	{number: api.Half, n: 65537, plus: [5]uint64{0x7c00, 0x7c00, 0x7bff, 0x7c00, 0x7bff}, minus: [5]uint64{0xfc00, 0xfc00, 0xfbff, 0xfbff, 0xfc00}, pluses: each(overflow), minuses: each(overflow)},
	{number: api.Half, n: math.MaxInt64, plus: [5]uint64{0x7c00, 0x7c00, 0x7bff, 0x7c00, 0x7bff}, minus: [5]uint64{0xfc00, 0xfc00, 0xfbff, 0xfbff, 0xfc00}, pluses: each(overflow), minuses: each(overflow)},
	// Brain has all sizes of int64, but few digits.
	{number: api.Brain, n: 1, plus: same(0x3f80), minus: same(0xbf80)},
	{number: api.Brain, n: 255, plus: same(0x437f), minus: same(0xc37f)},
	{number: api.Brain, n: 256, plus: same(0x4380), minus: same(0xc380)},
	{number: api.Brain, n: 257, plus: [5]uint64{0x4380, 0x4381, 0x4380, 0x4381, 0x4380}, minus: [5]uint64{0xc380, 0xc381, 0xc380, 0xc380, 0xc381}, pluses: each(inexact), minuses: each(inexact)},
	{number: api.Brain, n: 259, plus: [5]uint64{0x4382, 0x4382, 0x4381, 0x4382, 0x4381}, minus: [5]uint64{0xc382, 0xc382, 0xc381, 0xc381, 0xc382}, pluses: each(inexact), minuses: each(inexact)},
	{number: api.Brain, n: 511, plus: [5]uint64{0x4400, 0x4400, 0x43ff, 0x4400, 0x43ff}, minus: [5]uint64{0xc400, 0xc400, 0xc3ff, 0xc3ff, 0xc400}, pluses: each(inexact), minuses: each(inexact)},
	{number: api.Brain, n: 65504, plus: [5]uint64{0x4780, 0x4780, 0x477f, 0x4780, 0x477f}, minus: [5]uint64{0xc780, 0xc780, 0xc77f, 0xc77f, 0xc780}, pluses: each(inexact), minuses: each(inexact)},
	{number: api.Brain, n: math.MaxInt64, plus: [5]uint64{0x5f00, 0x5f00, 0x5eff, 0x5f00, 0x5eff}, minus: [5]uint64{0xdf00, 0xdf00, 0xdeff, 0xdeff, 0xdf00}, pluses: each(inexact), minuses: each(inexact)},
	// Single.
	{number: api.Single, n: 1, plus: same(0x3f800000), minus: same(0xbf800000)},
	{number: api.Single, n: 16777215, plus: same(0x4b7fffff), minus: same(0xcb7fffff)},
	{number: api.Single, n: 16777216, plus: same(0x4b800000), minus: same(0xcb800000)},
	{number: api.Single, n: 16777217, plus: [5]uint64{0x4b800000, 0x4b800001, 0x4b800000, 0x4b800001, 0x4b800000}, minus: [5]uint64{0xcb800000, 0xcb800001, 0xcb800000, 0xcb800000, 0xcb800001}, pluses: each(inexact), minuses: each(inexact)},
	{number: api.Single, n: 16777219, plus: [5]uint64{0x4b800002, 0x4b800002, 0x4b800001, 0x4b800002, 0x4b800001}, minus: [5]uint64{0xcb800002, 0xcb800002, 0xcb800001, 0xcb800001, 0xcb800002}, pluses: each(inexact), minuses: each(inexact)},
	{number: api.Single, n: 33554431, plus: [5]uint64{0x4c000000, 0x4c000000, 0x4bffffff, 0x4c000000, 0x4bffffff}, minus: [5]uint64{0xcc000000, 0xcc000000, 0xcbffffff, 0xcbffffff, 0xcc000000}, pluses: each(inexact), minuses: each(inexact)},
	{number: api.Single, n: math.MaxInt64, plus: [5]uint64{0x5f000000, 0x5f000000, 0x5effffff, 0x5f000000, 0x5effffff}, minus: [5]uint64{0xdf000000, 0xdf000000, 0xdeffffff, 0xdeffffff, 0xdf000000}, pluses: each(inexact), minuses: each(inexact)},
	// Double.
	{number: api.Double, n: 1, plus: same(0x3ff0000000000000), minus: same(0xbff0000000000000)},
	{number: api.Double, n: 1<<53 - 1, plus: same(0x433fffffffffffff), minus: same(0xc33fffffffffffff)},
	{number: api.Double, n: 1 << 53, plus: same(0x4340000000000000), minus: same(0xc340000000000000)},
	{number: api.Double, n: 1<<53 + 1, plus: [5]uint64{0x4340000000000000, 0x4340000000000001, 0x4340000000000000, 0x4340000000000001, 0x4340000000000000}, minus: [5]uint64{0xc340000000000000, 0xc340000000000001, 0xc340000000000000, 0xc340000000000000, 0xc340000000000001}, pluses: each(inexact), minuses: each(inexact)},
	{number: api.Double, n: 1<<53 + 3, plus: [5]uint64{0x4340000000000002, 0x4340000000000002, 0x4340000000000001, 0x4340000000000002, 0x4340000000000001}, minus: [5]uint64{0xc340000000000002, 0xc340000000000002, 0xc340000000000001, 0xc340000000000001, 0xc340000000000002}, pluses: each(inexact), minuses: each(inexact)},
	{number: api.Double, n: math.MaxInt64, plus: [5]uint64{0x43e0000000000000, 0x43e0000000000000, 0x43dfffffffffffff, 0x43e0000000000000, 0x43dfffffffffffff}, minus: [5]uint64{0xc3e0000000000000, 0xc3e0000000000000, 0xc3dfffffffffffff, 0xc3dfffffffffffff, 0xc3e0000000000000}, pluses: each(inexact), minuses: each(inexact)},
}

// P21.2: rows written out by hand.
func TestP21_2_IntWritten(t *testing.T) {
	for _, c := range written {
		for i, direction := range directions {
			comes(t, c.number, direction, c.n, api.Bits{c.plus[i]}, c.pluses[i])
			comes(t, c.number, direction, -c.n, api.Bits{c.minus[i]}, c.minuses[i])
		}
	}
}

// P21.2: 0 has no sign, in no direction, and raises nothing.
func TestP21_2_IntNought(t *testing.T) {
	for _, f := range formats {
		for _, direction := range directions {
			comes(t, f.number, direction, 0, api.Bits{}, 0)
		}
	}
}

// P21.2: the least int64 is a power of two, which all formats have but Half.
func TestP21_2_IntLeast(t *testing.T) {
	for i, direction := range directions {
		half := [5]uint64{0xfc00, 0xfc00, 0xfbff, 0xfbff, 0xfc00}
		comes(t, api.Half, direction, math.MinInt64, api.Bits{half[i]}, overflow)
		comes(t, api.Brain, direction, math.MinInt64, api.Bits{0xdf00}, 0)
		comes(t, api.Single, direction, math.MinInt64, api.Bits{0xdf000000}, 0)
		comes(t, api.Double, direction, math.MinInt64, api.Bits{0xc3e0000000000000}, 0)
		comes(t, api.Quad, direction, math.MinInt64, api.Bits{0, 0xc03e000000000000}, 0)
		comes(t, api.Octo, direction, math.MinInt64, api.Bits{0, 0, 0, 0xc03e000000000000}, 0)
	}
}

// P21.2: Quad and Octo have every int64.
func TestP21_2_IntWide(t *testing.T) {
	for _, direction := range directions {
		for _, c := range []struct {
			n         int64
			top, next uint64
		}{
			{1, 0x3fff000000000000, 0},
			{-1, 0xbfff000000000000, 0},
			{3, 0x4000800000000000, 0},
			{-3, 0xc000800000000000, 0},
			{1<<53 + 1, 0x4034000000000000, 0x0800000000000000},
			{math.MaxInt64, 0x403dffffffffffff, 0xfffc000000000000},
			{-math.MaxInt64, 0xc03dffffffffffff, 0xfffc000000000000},
			{math.MaxInt64 - 1, 0x403dffffffffffff, 0xfff8000000000000},
			{1 - math.MaxInt64, 0xc03dffffffffffff, 0xfff8000000000000},
		} {
			comes(t, api.Quad, direction, c.n, api.Bits{c.next, c.top}, 0)
			comes(t, api.Octo, direction, c.n, api.Bits{0, 0, c.next, c.top}, 0)
		}
	}
}

// P21.2: whole numbers of every kind, in every format and direction.
func TestP21_2_IntKinds(t *testing.T) {
	for _, f := range formats {
		t.Run(fmt.Sprint(f.number), func(t *testing.T) {
			t.Parallel()
			for _, g := range formats {
				for _, n := range g.wholes() {
					f.comesAlike(t, n)
				}
			}
		})
	}
}

// P21.2: all whole numbers up to beyond Half's greatest one.
func TestP21_2_IntAll(t *testing.T) {
	for _, f := range formats[:2] {
		t.Run(fmt.Sprint(f.number), func(t *testing.T) {
			t.Parallel()
			for n := int64(-66_000); n <= 66_000; n++ {
				f.comesAlike(t, n)
			}
		})
	}
}

// P21.2: drawn whole numbers of every length.
func TestP21_2_IntDrawn(t *testing.T) {
	for _, f := range formats {
		t.Run(fmt.Sprint(f.number), func(t *testing.T) {
			t.Parallel()
			for seed := range uint64(20_000) {
				n := int64(scattered(seed+1<<42) >> (seed % 64))
				f.comesAlike(t, n)
				f.comesAlike(t, -n)
			}
		})
	}
}

// converted fails unless a whole number, rounded into Double and Single, is what the language converts it to, with flags where it isn't that.
func converted(t *testing.T, n int64) {
	t.Helper()
	single, double := float32(n), float64(n)
	flags := func(exact bool) int {
		if exact {
			return 0
		}
		return inexact
	}
	// A float that is 2^63 has no int64.
	comes(t, api.Single, api.Even, n, api.Bits{uint64(math.Float32bits(single))}, flags(single != 0x1p63 && int64(single) == n))
	comes(t, api.Double, api.Even, n, api.Bits{math.Float64bits(double)}, flags(double != 0x1p63 && int64(double) == n))
	if b, _, _ := native.FromInt(api.Double, api.Even, n); b != native.FromFloat64(double) {
		t.Errorf("FromInt(4, 0, %d): %x, not %v", n, b, double)
	}
	if b, _, _ := native.FromInt(api.Single, api.Even, n); b != native.FromFloat32(single) {
		t.Errorf("FromInt(3, 0, %d): %x, not %v", n, b, single)
	}
}

// P21.2, P6: Even, of Double and Single, is the language's own conversion.
func TestP21_2_IntNative(t *testing.T) {
	t.Parallel()
	for _, f := range formats {
		for _, n := range f.wholes() {
			converted(t, n)
		}
	}
	for seed := range uint64(300_000) {
		n := int64(scattered(seed+1<<43) >> (seed % 64))
		converted(t, n)
		converted(t, -n)
	}
}
