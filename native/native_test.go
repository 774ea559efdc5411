package native_test

import (
	"math"
	"testing"

	"caliper/api"
	"caliper/native"
)

// P21.2: the chapter's examples.
func TestExamples(t *testing.T) {
	if f, flags := native.Narrow(0.1); f != 0.1 || flags != api.Inexact {
		t.Error(f, flags)
	}
	if b, flags, errno := native.FromInt(3, api.Even, 16777217); b != (api.Bits{0x4b800000}) || flags != api.Inexact || errno != api.OK {
		t.Error(b, flags, errno)
	}
}

// P6: float32 and float64 go through patterns as through the language's own conversions: widened, narrowed, and as whole numbers.
func TestP6(t *testing.T) {
	for seed := range uint64(100_000) {
		f, n := math.Float64frombits(scattered(seed+1<<48)), int64(scattered(seed+1<<49)>>(seed%64))
		if f != f {
			continue
		}
		narrow, flags := native.Narrow(f)
		if own := float32(f); math.Float32bits(narrow) != math.Float32bits(own) || flags != 0 != (float64(own) != f) {
			t.Errorf("Narrow(%v): %v %d", f, narrow, flags)
		}
		b, _, errno := native.FromInt(api.Double, api.Even, n)
		if double, other := native.Float64(b); double != float64(n) || errno != api.OK || other != api.OK {
			t.Errorf("%d: %v %d %d", n, double, errno, other)
		}
		b, _, errno = native.FromInt(api.Single, api.Even, n)
		if single, other := native.Float32(b); single != float32(n) || errno != api.OK || other != api.OK {
			t.Errorf("%d: %v %d %d", n, single, errno, other)
		}
	}
}
