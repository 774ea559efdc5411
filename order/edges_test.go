package order_test

import (
	"math"
	"math/big"
	"sync"
	"testing"

	"caliper/api"
)

// none are numbers of no format.
var none = []int{0, 13, 14, -1, -3, -12, 256 + 3, 1<<32 + 3, -1<<32 + 10, math.MinInt, math.MinInt + 4, math.MaxInt, math.MaxInt - 5}

// kinds are patterns of every kind, with both signs: 0, the least number, a greater one, an infinity, NaNs.
func (f format) kinds() []api.Bits {
	edges := f.edges()
	list := []api.Bits{nothing, f.negated(nothing), {1}, f.negated(api.Bits{1}), f.infinity(false), f.infinity(true)}
	return append(append(list, f.nans()[:4]...), edges[len(edges)-2:]...)
}

// R5, R6: a number of no format, with whatever patterns, on either side.
func TestNoFormats(t *testing.T) {
	for _, number := range none {
		for _, a := range []api.Bits{{}, {1}, {0x3c00}, {0x7c01}, {0x22500001}, {0x7e000005}, {1 << 63}, {0, 1}, {ones, ones, ones, ones}} {
			noneNext(t, number, a, api.ErrArg)
			for _, b := range []api.Bits{{}, a, {0x7e00}, {0, 0, 0, 1 << 63}} {
				noneCompared(t, number, a, b)
				for _, other := range none {
					noneMixed(t, number, a, other, b)
				}
			}
			for _, f := range formats {
				for _, b := range f.kinds() {
					noneMixed(t, number, a, f.number, b)
				}
				noneMixed(t, number, a, f.number, api.Bits{ones, ones, ones, ones})
			}
		}
	}
}

// R5, R6: a pattern with bits beyond the width, at every place, whatever stands below them, of every format: on one side, on both, and beside a format that is none. Of Next it is ahead of ErrNone.
func TestTooWide(t *testing.T) {
	var kinds [][]api.Bits
	for _, f := range formats {
		kinds = append(kinds, f.kinds())
	}
	each(t, formats, func(t *testing.T, f format) {
		own := kinds[f.number-1]
		for i, low := range own {
			for place := f.width; place < 256; place++ {
				b := with(low, two(place))
				if place%16 == 0 {
					b = with(low, new(big.Int).Sub(two(256), two(place)))
				}
				noneCompared(t, f.number, b, low)
				noneCompared(t, f.number, b, own[i%7])
				noneCompared(t, f.number, b, b)
				noneNext(t, f.number, b, api.ErrArg)
				g := formats[(i+place)%12]
				noneMixed(t, f.number, b, f.number, low)
				noneMixed(t, f.number, b, g.number, kinds[g.number-1][i%12])
				noneMixed(t, f.number, b, g.number, api.Bits{ones, ones, ones, ones - 1})
				noneMixed(t, f.number, b, none[(i+place)%len(none)], nothing)
			}
		}
	})
}

// R6: a pattern that fits the one format and not the other, in each two formats.
func TestWidthsChanged(t *testing.T) {
	for _, f := range formats {
		for _, g := range formats {
			if f.width >= g.width {
				continue
			}
			b := g.negated(nothing)
			noneMixed(t, f.number, b, g.number, b)
			noneMixed(t, f.number, b, f.number, nothing)
			noneCompared(t, f.number, b, nothing)
			noneNext(t, f.number, b, api.ErrArg)
			mixes(t, f.number, nothing, g.number, b, 0, true)
		}
	}
}

// R2: the same arguments have the same answers, whatever is asked in between or at the same time.
func TestTogether(t *testing.T) {
	var workers sync.WaitGroup
	for _, f := range formats {
		for _, g := range formats {
			workers.Go(func() {
				others := g.some(37)
				for range 2 {
					for _, x := range f.some(37) {
						for _, y := range others {
							lie(t, x, y)
						}
						apart(t, x, x)
						noneMixed(t, f.number, x.b, 13, x.b)
						if f.base == 2 {
							f.moves(t, x.b)
						} else {
							noneNext(t, f.number, x.b, api.ErrNone)
						}
					}
				}
			})
		}
	}
	workers.Wait()
}

// fits says whether a format has the number, and the pattern fits it.
func fits(number int, b api.Bits) bool {
	return number >= api.Half && number <= api.MostFormat && toBig(b).BitLen() <= numbered(number).width
}

// R1: no call panics, whatever it is given, and each answers as the oracle does, or an error and nothing else.
func FuzzOrder(f *testing.F) {
	for i := range 16 {
		f.Add(i, 12-i, uint64(0x3f80f3fc), uint64(1)<<(4*i), uint64(i%2), uint64(0), uint64(i), uint64(0), uint64(0), uint64(0))
		f.Add(1+i%6, 7+i%6, uint64(ones), uint64(i)<<60, uint64(0), uint64(i/8)<<62, uint64(ones), uint64(0x7c)<<56, uint64(0), uint64(0))
	}
	f.Fuzz(func(t *testing.T, number, other int, a, b, c, d, e, g, h, i uint64) {
		left, right := api.Bits{a, b, c, d}, api.Bits{e, g, h, i}
		whole(t, number, other, left, right)
		// Most patterns are too wide: what is left of them is tried too.
		if number >= api.Half && number <= api.MostFormat && other >= api.Half && other <= api.MostFormat {
			low, high := numbered(number).cut(left), numbered(other).cut(right)
			whole(t, number, other, low, high)
			whole(t, number, number, low, numbered(number).cut(right))
		}
	})
}

// cut is a pattern without the bits beyond the width.
func (f format) cut(b api.Bits) api.Bits {
	return toBits(new(big.Int).Mod(toBig(b), two(f.width)))
}

// whole fails unless all calls answer what they must of two patterns.
func whole(t *testing.T, number, other int, a, b api.Bits) {
	t.Helper()
	if !fits(number, a) || !fits(other, b) {
		noneMixed(t, number, a, other, b)
	} else {
		lie(t, sample{numbered(number), a, numbered(number).of(a)}, sample{numbered(other), b, numbered(other).of(b)})
	}
	if !fits(number, a) || !fits(number, b) {
		noneCompared(t, number, a, b)
	} else {
		f := numbered(number)
		apart(t, sample{f, a, f.of(a)}, sample{f, b, f.of(b)})
	}
	switch {
	case !fits(number, a):
		noneNext(t, number, a, api.ErrArg)
	case numbered(number).base == 2:
		numbered(number).moves(t, a)
	default:
		noneNext(t, number, a, api.ErrNone)
	}
}
