package native_test

import (
	"math"
	"math/big"
	"testing"

	"caliper/api"
	"caliper/binary"
	"caliper/native"
)

// P21.1: floats that the language has names or constants for, and their patterns, written out.
func TestP21_1_Float64Written(t *testing.T) {
	for _, c := range []struct {
		f float64
		b uint64
	}{
		{0, 0},
		{0x1p-1074, 1},
		{0x1p-1073, 2},
		{0x0.fffffffffffffp-1022, 0x000fffffffffffff},
		{0x1p-1022, 0x0010000000000000},
		{0x1.0000000000001p-1022, 0x0010000000000001},
		{0x1.fffffffffffffp-1, 0x3fefffffffffffff},
		{1, 0x3ff0000000000000},
		{0x1.0000000000001p0, 0x3ff0000000000001},
		{0.1, 0x3fb999999999999a},
		{1.5, 0x3ff8000000000000},
		{3, 0x4008000000000000},
		{1 << 53, 0x4340000000000000},
		{math.Pi, 0x400921fb54442d18},
		{1e300, 0x7e37e43c8800759c},
		{math.MaxFloat64, 0x7fefffffffffffff},
		{math.Inf(1), 0x7ff0000000000000},
	} {
		goes64(t, c.f, c.b)
		goes64(t, math.Copysign(c.f, -1), c.b|1<<63)
	}
}

// P21.1: the same of float32.
func TestP21_1_Float32Written(t *testing.T) {
	for _, c := range []struct {
		f float32
		b uint32
	}{
		{0, 0},
		{0x1p-149, 1},
		{0x1p-148, 2},
		{0x0.fffffep-126, 0x007fffff},
		{0x1p-126, 0x00800000},
		{0x1.000002p-126, 0x00800001},
		{0x1.fffffep-1, 0x3f7fffff},
		{1, 0x3f800000},
		{0x1.000002p0, 0x3f800001},
		{0.1, 0x3dcccccd},
		{1.5, 0x3fc00000},
		{3, 0x40400000},
		{1 << 24, 0x4b800000},
		{math.Pi, 0x40490fdb},
		{1e30, 0x7149f2ca},
		{math.MaxFloat32, 0x7f7fffff},
		{float32(math.Inf(1)), 0x7f800000},
	} {
		goes32(t, c.f, c.b)
		goes32(t, float32(math.Copysign(float64(c.f), -1)), c.b|1<<31)
	}
}

// P21.1: NaNs, quiet and signalling, of both signs, with payloads of every kind, stay as they are to the last bit.
func TestP21_1_NaNs(t *testing.T) {
	count := 0
	for _, b := range doubles() {
		if f := math.Float64frombits(b); f != f {
			goes64(t, f, b)
			if got, _ := native.Float64(api.Bits{b}); got == got {
				t.Errorf("Float64(%x) is a number", b)
			}
			count++
		}
	}
	for _, b := range singles() {
		if f := math.Float32frombits(b); f != f {
			goes32(t, f, b)
			if got, _ := native.Float32(api.Bits{uint64(b)}); got == got {
				t.Errorf("Float32(%x) is a number", b)
			}
			count++
		}
	}
	if count < 100 {
		t.Errorf("only %d NaNs", count)
	}
}

// P21.1: patterns of every kind, and drawn ones, each way.
func TestP21_1_Patterns(t *testing.T) {
	for _, b := range doubles() {
		goes64(t, math.Float64frombits(b), b)
	}
	for _, b := range singles() {
		goes32(t, math.Float32frombits(b), b)
	}
	for seed := range uint64(1_000_000) {
		b := scattered(seed)
		goes64(t, math.Float64frombits(b), b)
		goes32(t, math.Float32frombits(uint32(b)), uint32(b))
		// Few drawn patterns of Double are NaNs or subnormal.
		b |= 0x7ff << 52
		goes64(t, math.Float64frombits(b), b)
		b &= 1<<63 | 1<<52 - 1
		goes64(t, math.Float64frombits(b), b)
	}
}

// means fails unless layer 5 says that a pattern means just this float's value.
func means(t *testing.T, number int, b api.Bits, f float64) {
	t.Helper()
	d, errno := binary.Unpack(number, b)
	if errno != api.OK || d.Sign != math.Signbit(f) {
		t.Errorf("Unpack(%d, %x): %+v %d, not %v", number, b, d, errno, f)
		return
	}
	if math.IsInf(f, 0) {
		if d.Class != api.Infinite {
			t.Errorf("Unpack(%d, %x): %+v, not %v", number, b, d, f)
		}
		return
	}
	value := new(big.Float).SetMantExp(new(big.Float).SetUint64(d.Coef[0]), d.Exp)
	if d.Class != api.Finite || value.Cmp(big.NewFloat(math.Abs(f))) != 0 {
		t.Errorf("Unpack(%d, %x): %+v, not %v", number, b, d, f)
	}
}

// P21.1: the patterns are those of Double and Single: by layer 5 they mean the float's value.
func TestP21_1_Layer5(t *testing.T) {
	for seed := range uint64(20_000) {
		f, g := math.Float64frombits(scattered(seed)), math.Float32frombits(uint32(scattered(seed)))
		if f == f {
			means(t, api.Double, native.FromFloat64(f), f)
		}
		if g == g {
			means(t, api.Single, native.FromFloat32(g), float64(g))
		}
	}
	for _, b := range doubles() {
		if f := math.Float64frombits(b); f == f {
			means(t, api.Double, native.FromFloat64(f), f)
		}
	}
	for _, b := range singles() {
		if f := math.Float32frombits(b); f == f {
			means(t, api.Single, native.FromFloat32(f), float64(f))
		}
	}
}

// P21.1, P4: a float32 that is widened by layer 12 is the float64 that the language widens it to, and comes back.
func TestP21_1_Widened(t *testing.T) {
	list := singles()
	for seed := range uint64(20_000) {
		list = append(list, uint32(scattered(seed+1<<30)))
	}
	for _, b := range list {
		f := math.Float32frombits(b)
		if f != f {
			continue
		}
		wide := widened(t, native.FromFloat32(f))
		goes64(t, float64(f), wide[0])
		narrows(t, wide[0], b, 0)
	}
}
