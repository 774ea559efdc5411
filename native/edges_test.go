package native_test

import (
	"math"
	"sync"
	"testing"

	"caliper/api"
	"caliper/native"
)

// otherNumbers are those of formats that aren't binary, and numbers of none.
var otherNumbers = []int{7, 8, 9, 10, 11, 12, 0, 13, 14, -1, -3, 256 + 3, 1<<32 + 3, math.MinInt, math.MinInt + 4, math.MaxInt}

// otherDirections are numbers of no direction.
var otherDirections = []int{-1, 5, 6, 8, 256, 1 << 32, 1<<32 + 2, math.MinInt, math.MaxInt}

// P21.1, R5: a pattern with a single bit beyond the width, at every place, in each word, whatever stands below: ErrArg, and 0 beside it.
func TestTooWideAlone(t *testing.T) {
	for place := 32; place < 256; place++ {
		for _, low := range singles() {
			b := api.Bits{uint64(low)}
			b[place/64] |= 1 << (place % 64)
			none32(t, b)
		}
		if place < 64 {
			continue
		}
		for _, low := range doubles() {
			b := api.Bits{low}
			b[place/64] |= 1 << (place % 64)
			none64(t, b)
		}
	}
}

// P21.1, R5: several bits beyond the width: in one word and in several.
func TestTooWideTogether(t *testing.T) {
	for seed := range uint64(20_000) {
		b := api.Bits{scattered(4 * seed), scattered(4*seed + 1), scattered(4*seed + 2), scattered(4*seed + 3)}
		for i := 1; i < 4; i++ {
			// Which words above the lowest have something is what the seed's lowest bits say, one of them at least.
			if (seed%7+1)>>(i-1)&1 == 0 {
				b[i] = 0
			}
		}
		none64(t, b)
		none32(t, b)
		none32(t, api.Bits{b[0] &^ (1<<32 - 1), b[1], b[2], b[3]})
		none32(t, api.Bits{b[0] | 1<<32})
	}
	for i := range 4 {
		b := api.Bits{}
		b[i] = math.MaxUint64
		none32(t, b)
		if i > 0 {
			none64(t, b)
		}
	}
	none64(t, api.Bits{math.MaxUint64, math.MaxUint64, math.MaxUint64, math.MaxUint64})
	none32(t, api.Bits{math.MaxUint64, math.MaxUint64, math.MaxUint64, math.MaxUint64})
}

// P21.1: a pattern of Double with bits above the lowest 32 is none of Single, and one without them is a pattern of both.
func TestOtherWidth(t *testing.T) {
	for _, b := range singles() {
		goes64(t, math.Float64frombits(uint64(b)), uint64(b))
	}
	for _, b := range doubles() {
		if b>>32 != 0 {
			none32(t, api.Bits{b})
		} else {
			goes32(t, math.Float32frombits(uint32(b)), uint32(b))
		}
	}
}

// someWholes are whole numbers that are rounded, that aren't, and that overflow in Half.
var someWholes = []int64{0, 1, -1, 2049, -4095, 65520, 16777217, -16777219, 1<<53 + 1, math.MinInt64, math.MaxInt64}

// P21.2, R5, R6: a format that is none, or a decimal one, with whatever direction.
func TestIntNumbers(t *testing.T) {
	for _, number := range otherNumbers {
		for _, n := range someWholes {
			for _, direction := range append(directions, otherDirections...) {
				noInt(t, number, direction, n)
			}
		}
	}
}

// P21.2, R5, R6: a direction that is none, 0 too, which isn't rounded.
func TestIntDirections(t *testing.T) {
	for _, f := range formats {
		for _, direction := range otherDirections {
			for _, n := range someWholes {
				noInt(t, f.number, direction, n)
			}
		}
	}
}

// R2: the same arguments have the same answers, whatever is asked in between or at the same time.
func TestTogether(t *testing.T) {
	var workers sync.WaitGroup
	for i := range 16 {
		workers.Go(func() {
			f := formats[i%6]
			for j, b := range doubles() {
				goes64(t, math.Float64frombits(b), b)
				narrowsAlike(t, b)
				none64(t, api.Bits{b, 1 << (j % 64)})
				f.comesAlike(t, int64(b))
				noInt(t, 7+i%6, j%5, int64(b))
			}
			for j, b := range singles() {
				goes32(t, math.Float32frombits(b), b)
				none32(t, api.Bits{uint64(b), 0, 0, 1 << (j % 64)})
			}
		})
	}
	workers.Wait()
}

// R1: no call panics, whatever it is given, and each answers as the oracle does, or an error and nothing else.
func FuzzNative(f *testing.F) {
	for i := range 16 {
		f.Add(i-1, i%7-1, uint64(1)<<(4*i), uint64(i/8), uint64(0), uint64(i/12)<<60)
		f.Add(1+i%6, i%5, scattered(uint64(i)), uint64(0), uint64(0), uint64(0))
		f.Add(1+i%6, i%5, scattered(uint64(i))>>(4*i), scattered(99), scattered(98), scattered(97))
	}
	f.Fuzz(func(t *testing.T, number, direction int, a, b, c, d uint64) {
		f := math.Float64frombits(a)
		if got := native.FromFloat64(f); got != (api.Bits{a}) {
			t.Errorf("FromFloat64(%v): %x, not %x", f, got, a)
		}
		if b|c|d != 0 {
			none64(t, api.Bits{a, b, c, d})
			none32(t, api.Bits{uint64(uint32(a)), b, c, d})
		}
		if a>>32 != 0 {
			none32(t, api.Bits{a, b, c, d})
		}
		goes64(t, f, a)
		goes32(t, math.Float32frombits(uint32(a)), uint32(a))
		narrowsAlike(t, a)
		if number < api.Half || number > api.Octo || direction < api.Even || direction > api.Down {
			noInt(t, number, direction, int64(a))
			return
		}
		formats[number-1].comesAlike(t, int64(a))
	})
}
