package native_test

import (
	"math"
	"os"
	"sync"
	"testing"

	"caliper/api"
	"caliper/binconv"
	"caliper/native"
)

// P21.2: numbers and what they are rounded to, written out by hand: they don't hang on the oracle.
func TestP21_2_NarrowWritten(t *testing.T) {
	for _, c := range []struct {
		f     float64
		b     uint32
		flags int
	}{
		{0, 0, 0},
		{1, 0x3f800000, 0},
		{0.1, 0x3dcccccd, inexact},
		{math.Pi, 0x40490fdb, inexact},
		// Just below the middle above 1, which is even, there, and just above it; the same above an odd one, and below 1.
		{0x1.000000fffffffp0, 0x3f800000, inexact},
		{0x1.000001p0, 0x3f800000, inexact},
		{0x1.0000010000001p0, 0x3f800001, inexact},
		{0x1.000002p0, 0x3f800001, 0},
		{0x1.000002fffffffp0, 0x3f800001, inexact},
		{0x1.000003p0, 0x3f800002, inexact},
		{0x1.0000030000001p0, 0x3f800002, inexact},
		{0x1.fffffefffffffp-1, 0x3f7fffff, inexact},
		{0x1.ffffffp-1, 0x3f800000, inexact},
		{0x1.ffffff0000001p-1, 0x3f800000, inexact},
		// Neighbours of 1 that float32 hasn't.
		{0x1.0000000000001p0, 0x3f800000, inexact},
		{0x1.fffffffffffffp-1, 0x3f800000, inexact},
		// The least float32, what lies about half of it, and far below.
		{0x1p-149, 1, 0},
		{0x1p-150, 0, underflow},
		{0x1.fffffffffffffp-151, 0, underflow},
		{0x1.0000000000001p-150, 1, underflow},
		{0x1p-151, 0, underflow},
		{0x1p-1022, 0, underflow},
		{0x0.fffffffffffffp-1022, 0, underflow},
		{0x1p-1074, 0, underflow},
		{1e-46, 0, underflow},
		{1e-45, 1, underflow},
		// Middles among those that aren't normal: one and a half, two and a half, three and a half.
		{0x1.8p-149, 2, underflow},
		{0x1.4p-148, 2, underflow},
		{0x1.4000000000001p-148, 3, underflow},
		{0x1.cp-148, 4, underflow},
		{0x1.bffffffffffffp-148, 3, underflow},
		// The greatest that isn't normal, the middle above it, just beside that, the least normal one, and what lies above that.
		{0x1.fffffcp-127, 0x007fffff, 0},
		{0x1.fffffdfffffffp-127, 0x007fffff, underflow},
		{0x1.fffffep-127, 0x00800000, underflow},
		{0x1.fffffe0000001p-127, 0x00800000, underflow},
		{0x1.fffffffffffffp-127, 0x00800000, underflow},
		{0x1p-126, 0x00800000, 0},
		{0x1.0000000000001p-126, 0x00800000, inexact},
		{0x1.000001p-126, 0x00800000, inexact},
		{0x1.000003p-126, 0x00800002, inexact},
		// The greatest float32, the middle above it, just beside that, and what lies beyond.
		{0x1.fffffep127, 0x7f7fffff, 0},
		{0x1.fffffe0000001p127, 0x7f7fffff, inexact},
		{0x1.fffffefffffffp127, 0x7f7fffff, inexact},
		{0x1.ffffffp127, 0x7f800000, overflow},
		{0x1.ffffff0000001p127, 0x7f800000, overflow},
		{0x1.fffffffffffffp127, 0x7f800000, overflow},
		{0x1p128, 0x7f800000, overflow},
		{1e300, 0x7f800000, overflow},
		{math.MaxFloat64, 0x7f800000, overflow},
		{math.Inf(1), 0x7f800000, 0},
	} {
		b := math.Float64bits(c.f)
		narrows(t, b, c.b, c.flags)
		narrows(t, b|1<<63, c.b|1<<31, c.flags)
	}
}

// P21.2: NaNs, written out: none signals any more, and payloads that are too great are 0.
func TestP21_2_NarrowNaNs(t *testing.T) {
	for _, c := range []struct {
		b     uint64
		want  uint32
		flags int
	}{
		{0x7ff8000000000000, 0x7fc00000, 0},
		{0x7ff8000000000001, 0x7fc00001, 0},
		{0x7ff80000003fffff, 0x7fffffff, 0},
		{0x7ff8000000400000, 0x7fc00000, 0},
		{0x7ff8000000400001, 0x7fc00000, 0},
		{0x7ff8000020000000, 0x7fc00000, 0},
		{0x7fffffffffffffff, 0x7fc00000, 0},
		{0x7ff0000000000001, 0x7fc00001, invalid},
		{0x7ff0000000000002, 0x7fc00002, invalid},
		{0x7ff00000003fffff, 0x7fffffff, invalid},
		{0x7ff0000000400000, 0x7fc00000, invalid},
		{0x7ff0000020000000, 0x7fc00000, invalid},
		{0x7ff7ffffffffffff, 0x7fc00000, invalid},
	} {
		narrows(t, c.b, c.want, c.flags)
		narrows(t, c.b|1<<63, c.want|1<<31, c.flags)
	}
}

// asLayer12 fails unless Narrow of the float with a pattern is what layer 12 makes of the pattern.
func asLayer12(t *testing.T, b uint64) {
	t.Helper()
	want, flags, errno := binconv.Convert(api.Double, api.Single, api.Even, api.Bits{b})
	if errno != api.OK {
		t.Fatalf("Convert(%x): %d", b, errno)
	}
	narrows(t, b, uint32(want[0]), flags)
}

// P21.2: patterns of Double of every kind: as the language does it, and as layer 12 does.
func TestP21_2_NarrowPatterns(t *testing.T) {
	for _, b := range doubles() {
		narrowsAlike(t, b)
		asLayer12(t, b)
	}
}

// P21.2: a float32 that is widened comes back, without flags. Every 101st is tried, or, with EVERY set, every one, which takes some minutes.
func TestP21_2_NarrowWidened(t *testing.T) {
	t.Parallel()
	step := uint64(101)
	if os.Getenv("EVERY") != "" {
		step = 1
	}
	widenedFrom(t, 0, 1<<32, step)
}

// P21.2: so does every one that isn't normal, of both signs, every one from 1 on up to 2, every one of the greatest exponent, and every NaN.
func TestP21_2_NarrowBinades(t *testing.T) {
	t.Parallel()
	for _, exponent := range []uint64{0, 256, 127, 256 + 254, 255} {
		widenedFrom(t, exponent<<23, (exponent+1)<<23, 1)
	}
}

// widenedFrom fails unless the float32 with each pattern from low on, below high, comes back when it is widened. NaNs come back as the bits of what the language widens them to say.
func widenedFrom(t *testing.T, low, high, step uint64) {
	const workers = 8
	var all sync.WaitGroup
	for i := range uint64(workers) {
		all.Go(func() {
			for n := low + i*step; n < high; n += workers * step {
				wide := float64(math.Float32frombits(uint32(n)))
				want, flags := uint32(n), 0
				if wide != wide {
					want, flags = stilled(math.Float64bits(wide))
				}
				if got, raised := native.Narrow(wide); math.Float32bits(got) != want || raised != flags {
					t.Errorf("Narrow of %x: %x %d", n, math.Float32bits(got), raised)
					return
				}
			}
		})
	}
	all.Wait()
}

// between fails unless the middle of the float32 with a pattern and the next one farther from 0 is rounded to the even one, and what lies just beside it to the nearer one. After the greatest comes 2^128, in whose stead stands the infinity.
func between(t *testing.T, b uint32) {
	t.Helper()
	low, high := float64(math.Float32frombits(b)), float64(math.Float32frombits(b+1))
	over := inexact
	if math.IsInf(high, 0) {
		high, over = math.Copysign(0x1p128, low), overflow
	}
	// This is exact: float64 has room for one more bit than float32, at both ends.
	middle := low/2 + high/2
	below, above := math.Nextafter(middle, low), math.Nextafter(middle, high)
	under, even := inexact, b+b&1
	if math.Abs(high) <= 0x1p-126 {
		under, over = underflow, underflow
	}
	flags := under
	if even != b {
		flags = over
	}
	narrows(t, math.Float64bits(below), b, under)
	narrows(t, math.Float64bits(middle), even, flags)
	narrows(t, math.Float64bits(above), b+1, over)
}

// P21.2: middles of two neighbouring float32, and what lies just beside them.
func TestP21_2_NarrowMiddles(t *testing.T) {
	t.Parallel()
	list := singles()
	for exponent := range uint32(255) {
		for seed := range uint64(100) {
			list = append(list, exponent<<23|uint32(scattered(uint64(exponent)<<10+seed))&(1<<23-1))
		}
		list = append(list, exponent<<23, exponent<<23+1, exponent<<23|(1<<23-1), exponent<<23|(1<<23-2))
	}
	count := 0
	for _, b := range bothSigns(list, 1<<31) {
		if b&^(1<<31) < 0x7f800000 {
			between(t, b)
			count++
		}
	}
	if count < 50_000 {
		t.Errorf("only %d middles", count)
	}
}

// P21.2: drawn floats: of all, of those that float32 has about, of those that aren't normal there, of those of few bits, and NaNs.
func TestP21_2_NarrowDrawn(t *testing.T) {
	t.Parallel()
	for seed := range uint64(400_000) {
		b := scattered(seed + 1<<40)
		narrowsAlike(t, b)
		fraction := b & (1<<52 - 1)
		narrowsAlike(t, (1023-151+b>>53%281)<<52|fraction)
		narrowsAlike(t, (1023-152+b>>53%28)<<52|fraction)
		narrowsAlike(t, (1023-151+b>>53%281)<<52|fraction>>27<<27)
		narrowsAlike(t, 0x7ff<<52|fraction>>(b>>58))
	}
}

// P21.2: Narrow of drawn floats is what layer 12 makes of their patterns.
func TestP21_2_NarrowLayer12(t *testing.T) {
	for seed := range uint64(200_000) {
		b := scattered(seed + 1<<41)
		asLayer12(t, b)
		asLayer12(t, (1023-151+b>>53%281)<<52|b&(1<<52-1))
		asLayer12(t, 0x7ff<<52|b>>12>>(b&63))
	}
}
