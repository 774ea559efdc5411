package crossout_test

import (
	"math"
	"math/big"
	"sync"
	"testing"

	"caliper/api"
)

// otherSources are numbers of decimal formats, and of none.
var otherSources = []int{7, 8, 9, 10, 11, 12, 0, 13, 14, -1, -3, 256 + 3, 1<<32 + 3, -1<<32 + 1, math.MinInt, math.MinInt + 4, math.MaxInt, math.MaxInt - 5}

// otherTargets are numbers of binary formats, and of none.
var otherTargets = []int{1, 2, 3, 4, 5, 6, 0, 13, 14, -1, -7, -10, 256 + 7, 1<<32 + 7, -1<<32 + 10, math.MinInt, math.MinInt + 7, math.MaxInt, math.MaxInt - 5}

// otherDirections are numbers of no direction.
var otherDirections = []int{-1, -2, 5, 6, 8, 256, 1 << 32, 1<<32 + 2, math.MinInt, math.MinInt + 1, math.MaxInt}

// kinds are patterns of every kind, with both signs: 0, the least one, one, the greatest one, the infinity, a NaN that signals and one that doesn't.
func (f source) kinds() []api.Bits {
	one := f.pattern(two(f.precision-1), 1-f.precision)
	var list []api.Bits
	for _, pattern := range []*big.Int{new(big.Int), big.NewInt(1), one, plus(f.infinity(), -1), f.infinity(), plus(f.infinity(), 1), f.nan(new(big.Int), false)} {
		list = append(list, f.signed(pattern, false), f.signed(pattern, true))
	}
	return list
}

// with is a pattern with more bits set.
func with(b api.Bits, more *big.Int) api.Bits {
	return toBits(new(big.Int).Or(toBig(b), more))
}

// R5, R6: a format to convert from that is none or isn't binary, with whatever else.
func TestOtherSources(t *testing.T) {
	for _, from := range otherSources {
		for _, b := range []api.Bits{{}, {1}, {0x3c00}, {0x7c00}, {0x7c01}, {0x32800001}, {0x78000000}, {0x7e000005}, {0x3f800000}, {1 << 32}, {0, 1}, {0, 0, 0, 1 << 63}} {
			for _, g := range targets {
				for _, direction := range append(directions, otherDirections...) {
					refused(t, from, g.number, direction, b)
				}
			}
			for _, to := range otherTargets {
				refused(t, from, to, api.Even, b)
				refused(t, from, to, 5, b)
			}
		}
	}
}

// R5, R6: a format to convert into that is none or isn't decimal, and a direction that is none, of patterns of every kind, one that isn't rounded too.
func TestOtherTargetsAndDirections(t *testing.T) {
	for _, f := range sources {
		for _, b := range f.kinds() {
			for _, to := range otherTargets {
				for _, direction := range append(directions, otherDirections...) {
					refused(t, f.number, to, direction, b)
				}
			}
			for _, g := range targets {
				for _, direction := range otherDirections {
					refused(t, f.number, g.number, direction, b)
				}
			}
		}
	}
}

// R5, R6: the two kinds of formats changed for one another, and one kind alone.
func TestKindsChanged(t *testing.T) {
	for _, f := range sources {
		for _, g := range targets {
			for _, direction := range directions {
				for _, b := range []api.Bits{{}, {1}, {0x3c00}, {0x7c01}, {0x7800}} {
					refused(t, g.number, f.number, direction, b)
					refused(t, f.number, f.number, direction, b)
					refused(t, g.number, g.number, direction, b)
					refused(t, g.number, g.twin, direction, b)
				}
			}
		}
	}
}

// R5, R6: a pattern with bits beyond the width, at every place, whatever stands below them, alone and with other errors, even where it fits the decimal format.
func TestTooWide(t *testing.T) {
	for _, f := range sources[:5] {
		for i, low := range f.kinds() {
			for place := f.width; place < 256; place++ {
				b := with(low, two(place))
				refused(t, f.number, targets[(i+place)%6].number, directions[place%5], b)
				refused(t, f.number, api.Dense128, api.Even, with(low, new(big.Int).Sub(two(256), two(place))))
				if place%16 == 0 {
					refused(t, f.number, api.Plain128, 5, b)
					refused(t, f.number, f.number, api.Even, b)
					refused(t, f.number, 0, -1, b)
					refused(t, 0, 0, math.MinInt, b)
				}
			}
		}
	}
}

// R2: the same arguments have the same answers, whatever is asked in between or at the same time.
func TestTogether(t *testing.T) {
	var workers sync.WaitGroup
	for _, f := range sources {
		for _, pattern := range f.edges() {
			workers.Go(func() {
				for range 2 {
					f.goes(t, pattern)
					refused(t, f.number, f.number, api.Even, f.signed(pattern, false))
				}
			})
		}
	}
	workers.Wait()
}

// R1: no call panics, whatever it is given, and each answers as the oracle does, or ErrArg and nothing else.
func FuzzConvert(f *testing.F) {
	for i := range 16 {
		f.Add(i, 12-i, i%6, uint64(0x3f80f3fc), uint64(1)<<(4*i), uint64(i%2), uint64(0))
		f.Add(1+i%6, 7+i%6, i%5, uint64(math.MaxUint64), uint64(i)<<60, uint64(0), uint64(i/8)<<62)
	}
	f.Fuzz(func(t *testing.T, from, to, direction int, a, b, c, d uint64) {
		pattern := api.Bits{a, b, c, d}
		if from < api.Half || from > api.Octo || to < api.Plain32 || to > api.Dense128 || direction < api.Even || direction > api.Down {
			refused(t, from, to, direction, pattern)
			return
		}
		s, g := sources[from-1], numbered(to)
		low := new(big.Int).Mod(toBig(pattern), two(s.width))
		if toBits(low) != pattern {
			refused(t, from, to, direction, pattern)
		}
		// Most patterns are too wide: what is left of them is tried too.
		sign := low.Bit(s.width-1) == 1
		want, flags := g.becomes(s.meant(new(big.Int).SetBit(low, s.width-1, 0)), direction, sign)
		converts(t, from, to, direction, toBits(low), g.made(want), flags)
	})
}
