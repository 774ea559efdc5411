package native_test

import (
	"math"
	"testing"

	"caliper/api"
	"caliper/native"
)

// goes64 fails unless a pattern of Double and the float with that pattern are made of one another.
func goes64(t *testing.T, f float64, b uint64) {
	t.Helper()
	if got := native.FromFloat64(f); got != (api.Bits{b}) {
		t.Errorf("FromFloat64(%v): %x, not %x", f, got, b)
	}
	// Floats are compared by their bits: 0 is -0 otherwise, and a NaN is never itself.
	if got, errno := native.Float64(api.Bits{b}); math.Float64bits(got) != b || errno != api.OK {
		t.Errorf("Float64(%x): %x %d", b, math.Float64bits(got), errno)
	}
}

// goes32 fails unless a pattern of Single and the float with that pattern are made of one another.
func goes32(t *testing.T, f float32, b uint32) {
	t.Helper()
	if got := native.FromFloat32(f); got != (api.Bits{uint64(b)}) {
		t.Errorf("FromFloat32(%v): %x, not %x", f, got, b)
	}
	if got, errno := native.Float32(api.Bits{uint64(b)}); math.Float32bits(got) != b || errno != api.OK {
		t.Errorf("Float32(%x): %x %d", b, math.Float32bits(got), errno)
	}
}

// none64 fails unless Float64 answers ErrArg, and 0 beside it.
func none64(t *testing.T, b api.Bits) {
	t.Helper()
	if got, errno := native.Float64(b); math.Float64bits(got) != 0 || errno != api.ErrArg {
		t.Errorf("Float64(%x): %x %d, not ErrArg", b, math.Float64bits(got), errno)
	}
}

// none32 fails unless Float32 answers ErrArg, and 0 beside it.
func none32(t *testing.T, b api.Bits) {
	t.Helper()
	if got, errno := native.Float32(b); math.Float32bits(got) != 0 || errno != api.ErrArg {
		t.Errorf("Float32(%x): %x %d, not ErrArg", b, math.Float32bits(got), errno)
	}
}

// narrows fails unless Narrow of the float with a pattern answers the one with that pattern, and these flags.
func narrows(t *testing.T, b uint64, want uint32, wantFlags int) {
	t.Helper()
	got, flags := native.Narrow(math.Float64frombits(b))
	if math.Float32bits(got) != want || flags != wantFlags {
		t.Errorf("Narrow(%x): %x %d, not %x %d", b, math.Float32bits(got), flags, want, wantFlags)
	}
}

// narrowsAlike fails unless Narrow of the float with a pattern answers what the oracle has, with both signs.
func narrowsAlike(t *testing.T, b uint64) {
	t.Helper()
	for _, signed := range []uint64{b &^ (1 << 63), b | 1<<63} {
		want, flags := narrowed(signed)
		narrows(t, signed, want, flags)
	}
}

// comes fails unless a whole number is rounded to this, with these flags.
func comes(t *testing.T, number, direction int, n int64, want api.Bits, wantFlags int) {
	t.Helper()
	got, flags, errno := native.FromInt(number, direction, n)
	if got != want || flags != wantFlags || errno != api.OK {
		t.Errorf("FromInt(%d, %d, %d): %x %d %d, not %x %d", number, direction, n, got, flags, errno, want, wantFlags)
	}
}

// comesAlike fails unless a whole number is rounded to what the oracle has, in every direction.
func (f format) comesAlike(t *testing.T, n int64) {
	t.Helper()
	for _, direction := range directions {
		want, flags := f.whole(direction, n)
		comes(t, f.number, direction, n, want, flags)
	}
}

// noInt fails unless FromInt answers ErrArg and nothing else.
func noInt(t *testing.T, number, direction int, n int64) {
	t.Helper()
	if got, flags, errno := native.FromInt(number, direction, n); got != (api.Bits{}) || flags != 0 || errno != api.ErrArg {
		t.Errorf("FromInt(%d, %d, %d): %x %d %d, not ErrArg", number, direction, n, got, flags, errno)
	}
}
