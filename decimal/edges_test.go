package decimal_test

import (
	"math"
	"testing"

	"caliper/api"
	"caliper/decimal"
)

func finite(exp int, coef ...uint64) api.Datum {
	d := api.Datum{Class: api.Finite, Exp: exp}
	copy(d.Coef[:], coef)
	return d
}

func quiet(payload ...uint64) api.Datum {
	d := api.Datum{Class: api.NaN}
	copy(d.Coef[:], payload)
	return d
}

func signalling(payload ...uint64) api.Datum {
	d := quiet(payload...)
	d.Signal = true
	return d
}

func minus(d api.Datum) api.Datum {
	d.Sign = true
	return d
}

var infinity = api.Datum{Class: api.Infinite}

// edge is a pattern and its meaning, written out: said without the oracle, which might be wrong in the same way.
type edge struct {
	number int
	b      api.Bits
	d      api.Datum
}

// Powers of ten that don't fit in one word: 10^33, 10^34.
const (
	low33, high33 = 0x38c15b0a00000000, 0x0000314dc6448d93
	low34, high34 = 0x378d8e6400000000, 0x0001ed09bead87c0
)

// The chapter's examples.
func TestExamples(t *testing.T) {
	checkPack(t, 10, finite(0, 1), api.Bits{0x22500001}, api.OK)
	checkPack(t, 7, finite(0, 1), api.Bits{0x32800001}, api.OK)
	checkUnpack(t, 7, api.Bits{0x78000000}, infinity, true)
	checkUnpack(t, 10, api.Bits{0x7c000005}, quiet(5), true)
}

// P14.1, P14.2: canonical patterns of each format: noughts, ones, the least and the greatest numbers, infinities, NaNs.
func TestCanonicalEdges(t *testing.T) {
	for _, c := range []edge{
		{7, api.Bits{0}, finite(-101)},
		{7, api.Bits{1}, finite(-101, 1)},
		{7, api.Bits{0x32800000}, finite(0)},
		{7, api.Bits{0x32800001}, finite(0, 1)},
		{7, api.Bits{0x007fffff}, finite(-101, 1<<23-1)},
		{7, api.Bits{0x00800000}, finite(-100)},
		{7, api.Bits{0x2fffffff}, finite(-6, 1<<23-1)},
		{7, api.Bits{0x5f800000}, finite(90)},
		{7, api.Bits{0x5fffffff}, finite(90, 1<<23-1)},
		{7, api.Bits{0x60000000}, finite(-101, 1<<23)},
		{7, api.Bits{0x6018967f}, finite(-101, 9999999)},
		{7, api.Bits{0x6cb8967f}, finite(0, 9999999)},
		{7, api.Bits{0x77e00000}, finite(90, 1<<23)},
		{7, api.Bits{0x77f8967f}, finite(90, 9999999)},
		{7, api.Bits{0xb1800000 | 750}, minus(finite(-2, 750))},
		{7, api.Bits{0x78000000}, infinity},
		{7, api.Bits{0x7c000000}, quiet()},
		{7, api.Bits{0x7c0f423f}, quiet(999999)},
		{7, api.Bits{0x7e000000}, signalling()},
		{7, api.Bits{0x7e0f423f}, signalling(999999)},

		{8, api.Bits{0}, finite(-398)},
		{8, api.Bits{0x31c0000000000001}, finite(0, 1)},
		{8, api.Bits{0x001fffffffffffff}, finite(-398, 1<<53-1)},
		{8, api.Bits{0x5fffffffffffffff}, finite(369, 1<<53-1)},
		{8, api.Bits{0x6000000000000000}, finite(-398, 1<<53)},
		{8, api.Bits{0x77fb86f26fc0ffff}, finite(369, 9999999999999999)},
		{8, api.Bits{0xb1800000000002ee}, minus(finite(-2, 750))},
		{8, api.Bits{0x7800000000000000}, infinity},
		{8, api.Bits{0x7c00000000000000}, quiet()},
		{8, api.Bits{0x7c038d7ea4c67fff}, quiet(999999999999999)},
		{8, api.Bits{0x7e00000000000001}, signalling(1)},

		{9, api.Bits{0}, finite(-6176)},
		{9, api.Bits{1, 0x3040000000000000}, finite(0, 1)},
		{9, api.Bits{ones, 0x0001ed09bead87bf}, finite(-6176, ones, high34-1)},
		{9, api.Bits{low34 - 1, 0x0001ed09bead87c0}, finite(-6176, low34-1, high34)},
		{9, api.Bits{low34 - 1, 0x5fffed09bead87c0}, finite(6111, low34-1, high34)},
		{9, api.Bits{750, 0xb03c000000000000}, minus(finite(-2, 750))},
		{9, api.Bits{0, 0x7800000000000000}, infinity},
		{9, api.Bits{0, 0x7c00000000000000}, quiet()},
		{9, api.Bits{low33 - 1, 0x7c00314dc6448d93}, quiet(low33-1, high33)},
		{9, api.Bits{7, 0x7e00000000000000}, signalling(7)},

		{10, api.Bits{0}, finite(-101)},
		{10, api.Bits{1}, finite(-101, 1)},
		{10, api.Bits{0x22500000}, finite(0)},
		{10, api.Bits{0x22500001}, finite(0, 1)},
		{10, api.Bits{0x22500400}, finite(0, 1000)},
		{10, api.Bits{0x26500000}, finite(0, 1000000)},
		{10, api.Bits{0x3e500000}, finite(0, 7000000)},
		{10, api.Bits{0x6a500000}, finite(0, 8000000)},
		{10, api.Bits{0x6e53fcff}, finite(0, 9999999)},
		{10, api.Bits{0x43f00000}, finite(90)},
		{10, api.Bits{0x77f3fcff}, finite(90, 9999999)},
		{10, api.Bits{0x64000000}, finite(-101, 9000000)},
		{10, api.Bits{0xa23003d0}, minus(finite(-2, 750))},
		{10, api.Bits{0x78000000}, infinity},
		{10, api.Bits{0x7c000000}, quiet()},
		{10, api.Bits{0x7c03fcff}, quiet(999999)},
		{10, api.Bits{0x7e000000}, signalling()},
		{10, api.Bits{0x7e03fcff}, signalling(999999)},

		{11, api.Bits{0}, finite(-398)},
		{11, api.Bits{0x2238000000000001}, finite(0, 1)},
		{11, api.Bits{0xa2300000000003d0}, minus(finite(-2, 750))},
		{11, api.Bits{0x77fcff3fcff3fcff}, finite(369, 9999999999999999)},
		{11, api.Bits{0x6400ff3fcff3fcff}, finite(-398, 9999999999999999)},
		{11, api.Bits{0x7800000000000000}, infinity},
		{11, api.Bits{0x7c00ff3fcff3fcff}, quiet(999999999999999)},
		{11, api.Bits{0x7e00000000000001}, signalling(1)},

		{12, api.Bits{0}, finite(-6176)},
		{12, api.Bits{1, 0x2208000000000000}, finite(0, 1)},
		{12, api.Bits{0x3d0, 0xa207800000000000}, minus(finite(-2, 750))},
		{12, api.Bits{0xf3fcff3fcff3fcff, 0x77ffcff3fcff3fcf}, finite(6111, low34-1, high34)},
		{12, api.Bits{0xf3fcff3fcff3fcff, 0x7c000ff3fcff3fcf}, quiet(low33-1, high33)},
		{12, api.Bits{0, 0x7800000000000000}, infinity},
		{12, api.Bits{7, 0x7e00000000000000}, signalling(7)},
	} {
		f := formats[c.number-7]
		for range 2 {
			checkUnpack(t, c.number, c.b, c.d, true)
			checkPack(t, c.number, c.d, c.b, api.OK)
			checkCanonical(t, c.number, c.b, c.b)
			c.b, c.d.Sign = f.negated(c.b), !c.d.Sign
		}
	}
}

// P14.1: patterns that aren't canonical, with what they mean and the pattern that is.
func TestOtherEdges(t *testing.T) {
	for _, c := range []struct {
		edge
		own api.Bits
	}{
		// Coefficients from 10^P on count as 0; the exponent stays.
		{edge{7, api.Bits{0x60189680}, finite(-101)}, api.Bits{0}},
		{edge{7, api.Bits{0x6cb89680}, finite(0)}, api.Bits{0x32800000}},
		{edge{7, api.Bits{0x77f89680}, finite(90)}, api.Bits{0x5f800000}},
		{edge{7, api.Bits{0x77ffffff}, finite(90)}, api.Bits{0x5f800000}},
		{edge{8, api.Bits{0x77fb86f26fc10000}, finite(369)}, api.Bits{0x5fe0000000000000}},
		{edge{8, api.Bits{0x77ffffffffffffff}, finite(369)}, api.Bits{0x5fe0000000000000}},
		{edge{9, api.Bits{low34, 0x0001ed09bead87c0}, finite(-6176)}, api.Bits{0}},
		{edge{9, api.Bits{low34, 0x5fffed09bead87c0}, finite(6111)}, api.Bits{0, 0x5ffe000000000000}},
		{edge{9, api.Bits{ones, 0x5fffffffffffffff}, finite(6111)}, api.Bits{0, 0x5ffe000000000000}},
		// The widest plain format has no room for a coefficient behind 1 0 0.
		{edge{9, api.Bits{0, 0x6000000000000000}, finite(-6176)}, api.Bits{0}},
		{edge{9, api.Bits{1, 0x6c10000000000000}, finite(0)}, api.Bits{0, 0x3040000000000000}},
		{edge{9, api.Bits{ones, 0x77ffffffffffffff}, finite(6111)}, api.Bits{0, 0x5ffe000000000000}},
		// Infinities with bits behind the five.
		{edge{7, api.Bits{0x78000001}, infinity}, api.Bits{0x78000000}},
		{edge{7, api.Bits{0x7a000000}, infinity}, api.Bits{0x78000000}},
		{edge{7, api.Bits{0x7bffffff}, infinity}, api.Bits{0x78000000}},
		{edge{8, api.Bits{0x7804000000000000}, infinity}, api.Bits{0x7800000000000000}},
		{edge{9, api.Bits{1, 0x7800000000000000}, infinity}, api.Bits{0, 0x7800000000000000}},
		{edge{10, api.Bits{0x78000001}, infinity}, api.Bits{0x78000000}},
		{edge{10, api.Bits{0x78100000}, infinity}, api.Bits{0x78000000}},
		{edge{11, api.Bits{0x7bffffffffffffff}, infinity}, api.Bits{0x7800000000000000}},
		{edge{12, api.Bits{0, 0x7a00000000000000}, infinity}, api.Bits{0, 0x7800000000000000}},
		// NaNs with bits of G behind the sixth one, and with payloads that are none.
		{edge{7, api.Bits{0x7c0f4240}, quiet()}, api.Bits{0x7c000000}},
		{edge{7, api.Bits{0x7c0fffff}, quiet()}, api.Bits{0x7c000000}},
		{edge{7, api.Bits{0x7e0fffff}, signalling()}, api.Bits{0x7e000000}},
		{edge{7, api.Bits{0x7c100005}, quiet(5)}, api.Bits{0x7c000005}},
		{edge{7, api.Bits{0x7f000005}, signalling(5)}, api.Bits{0x7e000005}},
		{edge{7, api.Bits{0x7fffffff}, signalling()}, api.Bits{0x7e000000}},
		{edge{8, api.Bits{0x7c038d7ea4c68000}, quiet()}, api.Bits{0x7c00000000000000}},
		{edge{8, api.Bits{0x7e04000000000001}, signalling(1)}, api.Bits{0x7e00000000000001}},
		{edge{9, api.Bits{low33, 0x7c00314dc6448d93}, quiet()}, api.Bits{0, 0x7c00000000000000}},
		{edge{9, api.Bits{9, 0x7c00400000000000}, quiet(9)}, api.Bits{9, 0x7c00000000000000}},
		{edge{10, api.Bits{0x7c100005}, quiet(5)}, api.Bits{0x7c000005}},
		{edge{10, api.Bits{0x7d000005}, quiet(5)}, api.Bits{0x7c000005}},
		{edge{10, api.Bits{0x7c0fffff}, quiet(999999)}, api.Bits{0x7c03fcff}},
		{edge{10, api.Bits{0x7fffffff}, signalling(999999)}, api.Bits{0x7e03fcff}},
		{edge{11, api.Bits{0x7c00000000000300 | 0x6e}, quiet(888)}, api.Bits{0x7c0000000000006e}},
		{edge{12, api.Bits{ones, 0x7fffffffffffffff}, signalling(low33-1, high33)}, api.Bits{0xf3fcff3fcff3fcff, 0x7e000ff3fcff3fcf}},
		// Declets that aren't canonical.
		{edge{10, api.Bits{0x225003ff}, finite(0, 999)}, api.Bits{0x225000ff}},
		{edge{10, api.Bits{0x225ffc00}, finite(0, 999000)}, api.Bits{0x2253fc00}},
		{edge{10, api.Bits{0x77ffffff}, finite(90, 9999999)}, api.Bits{0x77f3fcff}},
		{edge{11, api.Bits{0x77ffffffffffffff}, finite(369, 9999999999999999)}, api.Bits{0x77fcff3fcff3fcff}},
		{edge{12, api.Bits{ones, 0x77ffffffffffffff}, finite(6111, low34-1, high34)}, api.Bits{0xf3fcff3fcff3fcff, 0x77ffcff3fcff3fcf}},
	} {
		f := formats[c.number-7]
		for range 2 {
			checkUnpack(t, c.number, c.b, c.d, false)
			checkPack(t, c.number, c.d, c.own, api.OK)
			checkCanonical(t, c.number, c.b, c.own)
			c.b, c.own, c.d.Sign = f.negated(c.b), f.negated(c.own), !c.d.Sign
		}
	}
}

// P14.1: data that no pattern of a format means, each for one reason alone.
func TestPackNot(t *testing.T) {
	for _, c := range []struct {
		format
		beyond, payload api.Bits
	}{
		{formats[0], api.Bits{10000000}, api.Bits{1000000}},
		{formats[1], api.Bits{10000000000000000}, api.Bits{1000000000000000}},
		{formats[2], api.Bits{low34, high34}, api.Bits{low33, high33}},
		{formats[3], api.Bits{10000000}, api.Bits{1000000}},
		{formats[4], api.Bits{10000000000000000}, api.Bits{1000000000000000}},
		{formats[5], api.Bits{low34, high34}, api.Bits{low33, high33}},
	} {
		for _, d := range []api.Datum{
			{},
			{Class: 4},
			{Class: -1},
			{Class: math.MinInt},
			{Class: math.MaxInt},
			{Class: 1<<32 + 1},
			{Class: api.Finite, Signal: true},
			{Class: api.Finite, Coef: c.beyond},
			{Class: api.Finite, Coef: api.Bits{0, 0, 1}},
			{Class: api.Finite, Coef: api.Bits{0, 0, 0, 1}},
			{Class: api.Finite, Coef: api.Bits{0, 0, 0, 1 << 63}},
			{Class: api.Finite, Coef: api.Bits{ones, ones, ones, ones}},
			{Class: api.Finite, Exp: c.least - 1},
			{Class: api.Finite, Exp: c.most + 1},
			// This is a number of the format, but as another coefficient and exponent.
			{Class: api.Finite, Exp: c.most + 1, Coef: api.Bits{1}},
			{Class: api.Finite, Exp: c.least - 1, Coef: api.Bits{10}},
			{Class: api.Finite, Exp: math.MinInt, Coef: api.Bits{1}},
			{Class: api.Finite, Exp: math.MaxInt, Coef: api.Bits{1}},
			{Class: api.Infinite, Signal: true},
			{Class: api.Infinite, Exp: 1},
			{Class: api.Infinite, Exp: c.least},
			{Class: api.Infinite, Exp: math.MinInt},
			{Class: api.Infinite, Coef: api.Bits{1}},
			{Class: api.Infinite, Coef: api.Bits{0, 0, 0, 1 << 63}},
			{Class: api.NaN, Coef: c.payload},
			{Class: api.NaN, Signal: true, Coef: c.payload},
			{Class: api.NaN, Coef: api.Bits{0, 0, 0, 1 << 63}},
			{Class: api.NaN, Exp: 1},
			{Class: api.NaN, Exp: -1, Signal: true, Coef: api.Bits{1}},
			{Class: api.NaN, Exp: c.least},
			{Class: api.NaN, Exp: math.MaxInt},
		} {
			checkPack(t, c.number, d, nothing, api.ErrRange)
			checkPack(t, c.number, minus(d), nothing, api.ErrRange)
		}
	}
}

// others are numbers of formats that aren't decimal, and numbers of none.
var others = []int{1, 2, 3, 4, 5, 6, 0, 13, 14, -1, -7, -10, -12, 16, 71, 256 + 7, 1<<32 + 7, -1<<32 + 10, math.MinInt, math.MinInt + 7, math.MaxInt, math.MaxInt - 1}

// R5, R6: what is no decimal format is ErrArg, whatever else is wrong.
func TestOtherFormats(t *testing.T) {
	for _, number := range others {
		for _, b := range []api.Bits{{}, {1}, {0x32800001}, {0x7c000005}, {0x78000000}, {1 << 32}, {0, 1}, {0, 0, 1}, {0, 0, 0, 1 << 63}, {ones, ones, ones, ones}} {
			refused(t, number, b)
		}
		for _, d := range []api.Datum{{}, finite(0), finite(0, 1), infinity, quiet(5), signalling(), finite(0, ones, ones, ones, ones), finite(math.MinInt, 1), {Class: 9, Exp: math.MaxInt}} {
			checkPack(t, number, d, nothing, api.ErrArg)
		}
	}
}

// R5, R6: a pattern with bits beyond the width is ErrArg, whatever stands below them.
func TestTooWide(t *testing.T) {
	for _, f := range formats {
		for place := f.width; place < 256; place++ {
			for _, below := range []api.Bits{{}, {1}, f.made(finite(0, 1)), f.made(infinity), f.made(quiet(5)), toBits(plus(two(f.width), -1))} {
				b := below
				b[place/64] |= 1 << (place % 64)
				refused(t, f.number, b)
			}
		}
		refused(t, f.number, api.Bits{ones, ones, ones, ones})
	}
}

func refused(t *testing.T, number int, b api.Bits) {
	t.Helper()
	if d, canonical, errno := decimal.Unpack(number, b); d != (api.Datum{}) || canonical || errno != api.ErrArg {
		t.Errorf("Unpack(%d, %x): %+v, %v, %d", number, b, d, canonical, errno)
	}
	if own, errno := decimal.Canonical(number, b); own != nothing || errno != api.ErrArg {
		t.Errorf("Canonical(%d, %x): %x, %d", number, b, own, errno)
	}
}
