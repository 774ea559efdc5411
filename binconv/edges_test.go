package binconv_test

import (
	"math"
	"math/big"
	"sync"
	"testing"

	"caliper/api"
)

// otherNumbers are those of formats that aren't binary, and numbers of none.
var otherNumbers = []int{7, 8, 9, 10, 11, 12, 0, 13, -1, -3, 257, 1<<32 + 3, math.MinInt, math.MinInt + 4, math.MaxInt}

// otherDirections are numbers of no direction.
var otherDirections = []int{-1, 5, 6, 8, 256, 1 << 32, 1<<32 + 2, math.MinInt, math.MaxInt}

// kinds are patterns of every kind, without sign: 0, a subnormal one, one, the greatest, the infinity, a NaN that signals and one that doesn't.
func (f format) kinds() []*big.Int {
	return []*big.Int{new(big.Int), big.NewInt(1), f.power(0), plus(f.infinity(), -1), f.infinity(), plus(f.infinity(), 1), f.nan(big.NewInt(1), false)}
}

// tooWide are patterns with bits beyond the width, at every place, of every kind below it; Octo has none.
func (f format) tooWide() []api.Bits {
	var list []api.Bits
	for place := f.width; place < 256; place++ {
		for _, low := range append(f.kinds(), two(f.width-1)) {
			b := f.signed(low, false)
			b[place/64] |= 1 << (place % 64)
			list = append(list, b)
		}
	}
	if f.width < 256 {
		list = append(list, api.Bits{math.MaxUint64, math.MaxUint64, math.MaxUint64, math.MaxUint64})
	}
	return list
}

// R5, R6: a format to convert from that is none or isn't binary, with whatever else.
func TestFromArguments(t *testing.T) {
	for _, from := range otherNumbers {
		for _, b := range []api.Bits{{}, {1}, {0x3c00}, {0x7c00}, {0x7c01}, {0x7e00}, {1 << 32}, {0, 1}, {0, 0, 0, 1 << 63}, {0, 0, 0, 0x7fff000000000000}} {
			for to := api.Half; to <= api.Octo; to++ {
				for _, direction := range append(directions, otherDirections...) {
					refused(t, from, to, direction, b)
				}
			}
			for _, to := range otherNumbers {
				refused(t, from, to, api.Even, b)
				refused(t, from, to, 5, b)
			}
		}
	}
}

// R5, R6: a format to convert into that is none or isn't binary, and a direction that is none, of patterns of every kind, one that isn't rounded too.
func TestToAndDirectionArguments(t *testing.T) {
	for _, f := range formats {
		for _, pattern := range f.kinds() {
			for _, sign := range bothSigns {
				b := f.signed(pattern, sign)
				for _, to := range otherNumbers {
					for _, direction := range append(directions, otherDirections...) {
						refused(t, f.number, to, direction, b)
					}
				}
				for to := api.Half; to <= api.Octo; to++ {
					for _, direction := range otherDirections {
						refused(t, f.number, to, direction, b)
					}
				}
			}
		}
	}
}

// R5, R6: a pattern with bits beyond the width of the format that it is converted from, even where it fits the other one, alone and with other errors.
func TestPatternArguments(t *testing.T) {
	for _, f := range formats {
		for _, b := range f.tooWide() {
			for _, g := range formats {
				refused(t, f.number, g.number, api.Even, b)
			}
			refused(t, f.number, f.number, api.Down, b)
			refused(t, f.number, api.Octo, 5, b)
			refused(t, f.number, api.Plain128, api.Zero, b)
			refused(t, f.number, 0, -1, b)
		}
	}
}

// P12.1: into its own format every pattern stays, but a NaN that signals.
func TestP12_1_OwnFormat(t *testing.T) {
	for _, f := range formats {
		for _, pattern := range append(f.edges(), append(f.bitwise(), f.many(100)...)...) {
			want, flags := pattern, 0
			if pattern.Cmp(f.infinity()) > 0 && pattern.Bit(f.precision-2) == 0 {
				want, flags = new(big.Int).Add(pattern, two(f.precision-2)), invalid
			}
			for _, sign := range bothSigns {
				always(t, f.number, f.number, f.signed(pattern, sign), f.signed(want, sign), flags)
			}
		}
	}
}

// R2: the same arguments have the same answers, whatever is asked in between or at the same time.
func TestTogether(t *testing.T) {
	var workers sync.WaitGroup
	for _, f := range formats {
		for _, pattern := range f.edges()[:12] {
			workers.Go(func() {
				for range 3 {
					f.goes(t, pattern)
					refused(t, f.number, 7, api.Even, f.signed(pattern, false))
				}
			})
		}
	}
	workers.Wait()
}

// narrowed is the lowest bits of a pattern.
func narrowed(b api.Bits, width int) api.Bits {
	for i := range b {
		if beyond := 64*(i+1) - width; beyond >= 64 {
			b[i] = 0
		} else if beyond > 0 {
			b[i] &= math.MaxUint64 >> beyond
		}
	}
	return b
}

// isFormat says whether a number is a binary format's.
func isFormat(number int) bool { return number >= api.Half && number <= api.Octo }

// R1: no call panics, whatever it is given, and each answers as the oracle does.
func FuzzConvert(f *testing.F) {
	for i := range 14 {
		f.Add(i, 7-i, i%6, uint64(1)<<(4*i), uint64(0), uint64(i%2), uint64(0))
		f.Add(i%7, 1+i%6, i%5, scattered(uint64(i)), scattered(99), scattered(98), scattered(97))
	}
	f.Fuzz(func(t *testing.T, from, to, direction int, a, b, c, d uint64) {
		pattern := api.Bits{a, b, c, d}
		if !isFormat(from) || !isFormat(to) || direction < api.Even || direction > api.Down {
			refused(t, from, to, direction, pattern)
			return
		}
		first, second := formats[from-1], formats[to-1]
		if low := narrowed(pattern, first.width); low != pattern {
			refused(t, from, to, direction, pattern)
			// Most patterns are too wide: what is left of them is tried too.
			pattern = low
		}
		unsigned, sign := first.unsigned(pattern)
		want, flags := first.answers(second, unsigned)(direction, sign)
		converts(t, from, to, direction, pattern, want, flags)
	})
}
