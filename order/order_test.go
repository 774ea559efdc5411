package order_test

import (
	"math"
	"math/big"
	"slices"
	"testing"

	"caliper/api"
	"caliper/order"
)

const (
	ones    = math.MaxUint64
	invalid = api.Invalid
)

// The chapter's examples.
func TestExamples(t *testing.T) {
	compares(t, 3, api.Bits{0}, api.Bits{0x80000000}, 0, true)
	totals(t, 3, api.Bits{0}, api.Bits{0x80000000}, 1)
	steps(t, 3, api.Bits{0x3f800000}, true, api.Bits{0x3f800001}, 0)
	mixes(t, 3, api.Bits{0x3dcccccd}, 10, api.Bits{0x22400001}, 1, true)
}

// TestPatterns holds pairs of one format written out, without the oracle: how they lie by value, and in the order of data.
func TestPatterns(t *testing.T) {
	for _, c := range []struct {
		number int
		a, b   api.Bits
		value  int
		ok     bool
		total  int
	}{
		// Numbers, noughts and infinities of binary formats.
		{api.Half, api.Bits{}, api.Bits{}, 0, true, 0},
		{api.Half, api.Bits{0x8000}, api.Bits{}, 0, true, -1},
		{api.Half, api.Bits{0x8000}, api.Bits{0x8001}, 1, true, 1},
		{api.Half, api.Bits{0x3c00}, api.Bits{0x3c01}, -1, true, -1},
		{api.Half, api.Bits{0xbc00}, api.Bits{0xbc01}, 1, true, 1},
		{api.Half, api.Bits{0x03ff}, api.Bits{0x0400}, -1, true, -1},
		{api.Half, api.Bits{0x7bff}, api.Bits{0x7c00}, -1, true, -1},
		{api.Half, api.Bits{0xfbff}, api.Bits{0xfc00}, 1, true, 1},
		{api.Half, api.Bits{0xfc00}, api.Bits{0x7c00}, -1, true, -1},
		{api.Half, api.Bits{0x7c00}, api.Bits{0x7c00}, 0, true, 0},
		{api.Brain, api.Bits{0x7f7f}, api.Bits{0x7f80}, -1, true, -1},
		{api.Brain, api.Bits{0x0080}, api.Bits{0x007f}, 1, true, 1},
		{api.Single, api.Bits{0x00800000}, api.Bits{0x007fffff}, 1, true, 1},
		{api.Double, api.Bits{0x7fefffffffffffff}, api.Bits{1}, 1, true, 1},
		{api.Quad, api.Bits{0, 1 << 63}, api.Bits{1, 1 << 63}, 1, true, 1},
		{api.Quad, api.Bits{ones, 0x7ffeffffffffffff}, api.Bits{0, 0x7fff000000000000}, -1, true, -1},
		{api.Octo, api.Bits{ones, ones, ones, 0xfffeffffffffffff}, api.Bits{0, 0, 0, 0xffff000000000000}, 1, true, 1},
		{api.Octo, api.Bits{0, 1, 0, 0x3fff000000000000}, api.Bits{ones, 0, 0, 0x3fff000000000000}, 1, true, 1},
		// NaNs of binary formats.
		{api.Half, api.Bits{0x7c00}, api.Bits{0x7c01}, 0, false, -1},
		{api.Half, api.Bits{0x7dff}, api.Bits{0x7e00}, 0, false, -1},
		{api.Half, api.Bits{0x7e00}, api.Bits{0x7e01}, 0, false, -1},
		{api.Half, api.Bits{0x7e05}, api.Bits{0x7e05}, 0, false, 0},
		{api.Half, api.Bits{0xfc00}, api.Bits{0xfc01}, 0, false, 1},
		{api.Half, api.Bits{0xfdff}, api.Bits{0xfe00}, 0, false, 1},
		{api.Half, api.Bits{0xfe00}, api.Bits{0xfe01}, 0, false, 1},
		{api.Half, api.Bits{0xfc01}, api.Bits{0x7e00}, 0, false, -1},
		{api.Half, api.Bits{0xfe00}, api.Bits{0x7c01}, 0, false, -1},
		{api.Octo, api.Bits{0, 1, 0, 0x7fff800000000000}, api.Bits{1, 0, 0, 0x7fff800000000000}, 0, false, 1},
		// Members of cohorts: 1 and 1.0, 100 and 1e2, noughts.
		{api.Plain32, api.Bits{0x32800001}, api.Bits{0x3200000a}, 0, true, 1},
		{api.Plain32, api.Bits{0xb2800001}, api.Bits{0xb200000a}, 0, true, -1},
		{api.Dense32, api.Bits{0x22500001}, api.Bits{0x22400010}, 0, true, 1},
		{api.Dense32, api.Bits{0xa2500001}, api.Bits{0xa2400010}, 0, true, -1},
		{api.Dense32, api.Bits{0x22500080}, api.Bits{0x22700001}, 0, true, -1},
		{api.Dense32, api.Bits{0x22500000}, api.Bits{0x22400000}, 0, true, 1},
		{api.Dense32, api.Bits{0xa2500000}, api.Bits{0xa2400000}, 0, true, -1},
		{api.Dense32, api.Bits{0xa2500000}, api.Bits{0x22400000}, 0, true, -1},
		{api.Dense32, api.Bits{0x22500000}, api.Bits{0xa2400000}, 0, true, 1},
		{api.Plain64, api.Bits{}, api.Bits{0x5fe0000000000000}, 0, true, -1},
		{api.Plain128, api.Bits{0, 1 << 63}, api.Bits{0, 0xdffe000000000000}, 0, true, 1},
		{api.Dense128, api.Bits{1, 0x2208000000000000}, api.Bits{0x10, 0x2207c00000000000}, 0, true, 1},
		// The nought with the greatest exponent is below the least number.
		{api.Plain32, api.Bits{0x5f800000}, api.Bits{1}, -1, true, -1},
		{api.Plain32, api.Bits{0xdf800000}, api.Bits{0x80000001}, 1, true, 1},
		// 9999999 and 1000000e1, and one more digit's place.
		{api.Plain32, api.Bits{0x6cb8967f}, api.Bits{0x330f4240}, -1, true, -1},
		{api.Dense32, api.Bits{0x6e53fcff}, api.Bits{0x26600000}, -1, true, -1},
		{api.Plain32, api.Bits{0x77f8967f}, api.Bits{0x78000000}, -1, true, -1},
		// Patterns that mean the same: coefficients and payloads that are too great, declets of no number, bits that mean nothing.
		{api.Plain32, api.Bits{0x6cb89680}, api.Bits{0x32800000}, 0, true, 0},
		{api.Plain32, api.Bits{0x6cb89680}, api.Bits{0x6cbfffff}, 0, true, 0},
		{api.Plain32, api.Bits{0x6cb89680}, api.Bits{0x32000000}, 0, true, 1},
		{api.Plain32, api.Bits{0x7c0f4240}, api.Bits{0x7c000000}, 0, false, 0},
		{api.Plain32, api.Bits{0x7c0f423f}, api.Bits{0x7c0fffff}, 0, false, 1},
		{api.Dense32, api.Bits{0x225000ff}, api.Bits{0x225003ff}, 0, true, 0},
		{api.Dense32, api.Bits{0x78000000}, api.Bits{0x7bffffff}, 0, true, 0},
		{api.Dense32, api.Bits{0x7dffffff}, api.Bits{0x7c03fcff}, 0, false, 0},
		{api.Dense32, api.Bits{0xfe000491}, api.Bits{0xfff00491}, 0, false, 0},
		{api.Dense64, api.Bits{0xf800000000000000}, api.Bits{0xfbffffffffffffff}, 0, true, 0},
		// NaNs of decimal formats, of which one that signals may have the payload 0.
		{api.Dense32, api.Bits{0x7e000000}, api.Bits{0x78000000}, 0, false, 1},
		{api.Dense32, api.Bits{0x7e000000}, api.Bits{0x7e000001}, 0, false, -1},
		{api.Dense32, api.Bits{0x7e03fcff}, api.Bits{0x7c000000}, 0, false, -1},
		{api.Dense32, api.Bits{0xfe03fcff}, api.Bits{0xfc000000}, 0, false, 1},
		{api.Dense32, api.Bits{0xfc000001}, api.Bits{0xfc000000}, 0, false, -1},
		{api.Plain128, api.Bits{0, 0x7c00000000000001}, api.Bits{ones, 0x7c00000000000000}, 0, false, 1},
	} {
		compares(t, c.number, c.a, c.b, c.value, c.ok)
		compares(t, c.number, c.b, c.a, -c.value, c.ok)
		mixes(t, c.number, c.a, c.number, c.b, c.value, c.ok)
		totals(t, c.number, c.a, c.b, c.total)
		totals(t, c.number, c.b, c.a, -c.total)
	}
}

// TestMixedPatterns holds pairs of two formats written out, without the oracle.
func TestMixedPatterns(t *testing.T) {
	for _, c := range []struct {
		f    int
		a    api.Bits
		g    int
		b    api.Bits
		want int
		ok   bool
	}{
		// One of every format against one of the next.
		{1, api.Bits{0x3c00}, 2, api.Bits{0x3f80}, 0, true},
		{2, api.Bits{0x3f80}, 3, api.Bits{0x3f800000}, 0, true},
		{3, api.Bits{0x3f800000}, 4, api.Bits{0x3ff0000000000000}, 0, true},
		{4, api.Bits{0x3ff0000000000000}, 5, api.Bits{0, 0x3fff000000000000}, 0, true},
		{5, api.Bits{0, 0x3fff000000000000}, 6, api.Bits{0, 0, 0, 0x3fff000000000000}, 0, true},
		{6, api.Bits{0, 0, 0, 0x3fff000000000000}, 7, api.Bits{0x32800001}, 0, true},
		{7, api.Bits{0x32800001}, 8, api.Bits{0x31c0000000000001}, 0, true},
		{8, api.Bits{0x31c0000000000001}, 9, api.Bits{1, 0x3040000000000000}, 0, true},
		{9, api.Bits{1, 0x3040000000000000}, 10, api.Bits{0x22500001}, 0, true},
		{10, api.Bits{0x22500001}, 11, api.Bits{0x2238000000000001}, 0, true},
		{11, api.Bits{0x2238000000000001}, 12, api.Bits{1, 0x2208000000000000}, 0, true},
		{12, api.Bits{1, 0x2208000000000000}, 1, api.Bits{0x3c00}, 0, true},
		// A tenth as good as each binary format has it.
		{1, api.Bits{0x2e66}, 10, api.Bits{0x22400001}, -1, true},
		{2, api.Bits{0x3dcd}, 10, api.Bits{0x22400001}, 1, true},
		{3, api.Bits{0x3dcccccd}, 7, api.Bits{0x32000001}, 1, true},
		{3, api.Bits{0xbdcccccd}, 7, api.Bits{0xb2000001}, -1, true},
		{4, api.Bits{0x3fb999999999999a}, 10, api.Bits{0x22400001}, 1, true},
		{5, api.Bits{0x999999999999999a, 0x3ffb999999999999}, 10, api.Bits{0x22400001}, 1, true},
		{3, api.Bits{0x3dcccccd}, 4, api.Bits{0x3fb999999999999a}, 1, true},
		{1, api.Bits{0x2e66}, 4, api.Bits{0x3fb999999999999a}, -1, true},
		// Noughts and infinities.
		{1, api.Bits{0x8000}, 12, api.Bits{}, 0, true},
		{7, api.Bits{0xdf800000}, 6, api.Bits{}, 0, true},
		{7, api.Bits{0x6cb89680}, 4, api.Bits{1 << 63}, 0, true},
		{7, api.Bits{0x6cb89680}, 4, api.Bits{1}, -1, true},
		{7, api.Bits{0x6cb89680}, 4, api.Bits{1<<63 + 1}, 1, true},
		{1, api.Bits{0x7c00}, 6, api.Bits{0, 0, 0, 0x7fff000000000000}, 0, true},
		{1, api.Bits{0x7c00}, 6, api.Bits{ones, ones, ones, 0x7ffeffffffffffff}, 1, true},
		{1, api.Bits{0xfc00}, 10, api.Bits{0xf8000000}, 0, true},
		{1, api.Bits{0xfc00}, 10, api.Bits{0x7bffffff}, -1, true},
		{10, api.Bits{0x7bffffff}, 2, api.Bits{0x7f80}, 0, true},
		// The greatest and the least numbers of all.
		{9, api.Bits{0x378d8e63ffffffff, 0x5fffed09bead87c0}, 6, api.Bits{ones, ones, ones, 0x7ffeffffffffffff}, 1, true},
		{9, api.Bits{1}, 6, api.Bits{1}, -1, true},
		{9, api.Bits{1}, 9, api.Bits{0x378d8e63ffffffff, 0x5fffed09bead87c0}, -1, true},
		{12, api.Bits{1}, 9, api.Bits{0x378d8e63ffffffff, 0x5fffed09bead87c0}, -1, true},
		{12, api.Bits{1}, 9, api.Bits{1}, 0, true},
		{5, api.Bits{1}, 6, api.Bits{1}, 1, true},
		{5, api.Bits{ones, 0x7ffeffffffffffff}, 6, api.Bits{ones, ones, ones, 0x7ffeffffffffffff}, -1, true},
		// NaNs.
		{1, api.Bits{0x7e00}, 10, api.Bits{0x7c000000}, 0, false},
		{1, api.Bits{0x7c01}, 10, api.Bits{0x22500001}, 0, false},
		{1, api.Bits{0xfe00}, 2, api.Bits{0x7f80}, 0, false},
		{12, api.Bits{0, 0xfe00000000000000}, 6, api.Bits{}, 0, false},
	} {
		mixes(t, c.f, c.a, c.g, c.b, c.want, c.ok)
		mixes(t, c.g, c.b, c.f, c.a, -c.want, c.ok)
	}
}

// P20.1: patterns at all edges against one another.
func TestP20_1_Edges(t *testing.T) {
	each(t, formats, func(t *testing.T, f format) {
		samples := f.sampled(f.edges())
		for i, x := range samples {
			for _, y := range samples[i:] {
				apart(t, x, y)
			}
		}
	})
}

// rank is where a binary pattern lies in the order of data: with the sign the other way round, below all without it.
func (f format) rank(b api.Bits) int64 {
	size := int64(b[0] &^ (1 << (f.width - 1)))
	if b[0]>>(f.width-1) == 1 {
		return -1 - size
	}
	return size
}

// isNaN says whether a pattern of Half or Brain is a NaN's.
func (f format) isNaN(b api.Bits) bool {
	return b[0]&^(1<<(f.width-1)) > f.top().Uint64()
}

// P20.1: all patterns of Half and of Brain, in their order: each against the next, and each against some of all kinds. Patterns of binary formats rise as the order of data does, if they have no sign, and fall, if they have it.
func TestP20_1_AllOfHalfAndBrain(t *testing.T) {
	each(t, binaries[:2], func(t *testing.T, f format) {
		for n := int64(-1 << 15); n < 1<<15-1; n++ {
			totals(t, f.number, f.ranked(n), f.ranked(n+1), -1)
			totals(t, f.number, f.ranked(n+1), f.ranked(n), 1)
		}
		for i, b := range f.edges() {
			if i%4 > 0 {
				continue
			}
			for n := range uint64(1 << 16) {
				f.ranks(t, b, api.Bits{n})
			}
		}
	})
}

// ranked undoes rank, of Half and Brain.
func (f format) ranked(n int64) api.Bits {
	if n < 0 {
		return api.Bits{uint64(-1-n) | 1<<15}
	}
	return api.Bits{uint64(n)}
}

// ranks fails unless two patterns of Half or Brain lie as their ranks do.
func (f format) ranks(t *testing.T, a, b api.Bits) {
	t.Helper()
	left, right := f.rank(a), f.rank(b)
	want := 0
	if left < right {
		want = -1
	} else if left > right {
		want = 1
	}
	totals(t, f.number, a, b, want)
	switch {
	case f.isNaN(a) || f.isNaN(b):
		compares(t, f.number, a, b, 0, false)
	case (a[0]|b[0])&^(1<<15) == 0:
		compares(t, f.number, a, b, 0, true)
	default:
		compares(t, f.number, a, b, want, true)
	}
}

// P20.1: drawn patterns against one another, and against those that are unlike them in a bit or two.
func TestP20_1_Drawn(t *testing.T) {
	each(t, formats, func(t *testing.T, f format) {
		compared := 0
		for seed := range uint64(4000) {
			b := f.drawn(seed)
			near := toBig(b)
			for i := range seed % 3 {
				place := int(among(seed*4+i+1<<40, new(big.Int), big.NewInt(int64(f.width))).Int64())
				near.SetBit(near, place, 1-near.Bit(place))
			}
			list := f.sampled([]api.Bits{b, toBits(near), f.drawn(seed + 4), f.drawn(seed*7 + 1<<30)})
			for _, x := range list[1:] {
				apart(t, list[0], x)
				if _, ok := byValue(list[0].m, x.m); ok {
					compared++
				}
			}
		}
		if compared < 4000 {
			t.Errorf("%d: only %d aren't NaNs", f.number, compared)
		}
	})
}

// P20.1: the order of data goes through, whatever the oracle says of it: of patterns laid in their order none is above a later one, and what has 0 ahead of 0 is 0 with all.
func TestP20_1_Through(t *testing.T) {
	each(t, formats, func(t *testing.T, f format) {
		list := f.edges()[:40]
		for seed := range uint64(160) {
			list = append(list, f.drawn(seed+1<<20))
		}
		if f.base == 10 {
			for i, pair := range f.strange() {
				if i%9 == 0 {
					list = append(list, pair[0], pair[1])
				}
			}
		}
		slices.SortFunc(list, func(a, b api.Bits) int {
			total, _ := order.Total(f.number, a, b)
			return total
		})
		for i := range list {
			same := true
			for j := i + 1; j < len(list); j++ {
				step, _ := order.Total(f.number, list[j-1], list[j])
				same = same && step == 0
				if same {
					totals(t, f.number, list[i], list[j], 0)
				} else {
					totals(t, f.number, list[i], list[j], -1)
				}
			}
		}
	})
}

// P20.1: where Compare says less or greater Total says the same, and where Total says 0 Compare does, unless there are NaNs; all is turned round with the other sign.
func TestP20_1_Signs(t *testing.T) {
	each(t, formats, func(t *testing.T, f format) {
		list := f.edges()
		for seed := range uint64(100) {
			list = append(list, f.drawn(seed+1<<21))
		}
		for i, a := range list {
			for j := i % 3; j < len(list); j += 3 {
				b := list[j]
				value, ok, _ := order.Compare(f.number, a, b)
				total, _ := order.Total(f.number, a, b)
				if value != 0 && value != total || total == 0 && value != 0 {
					t.Errorf("%d, %x, %x: Compare %d, Total %d", f.number, a, b, value, total)
				}
				compares(t, f.number, f.negated(a), f.negated(b), -value, ok)
				totals(t, f.number, f.negated(a), f.negated(b), -total)
			}
		}
	})
}
