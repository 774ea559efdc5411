package convert_test

import (
	"math/big"
	"testing"

	"caliper/api"
	"caliper/binary"
	"caliper/convert"
	"caliper/decimal"
)

// own is the canonical pattern of what a format's pattern means, and the flags of converting it: a NaN that signals doesn't any more.
func (f format) own(b api.Bits) (api.Bits, int) {
	m := f.of(b)
	switch {
	case m.class == api.Infinite:
		return f.infinity(m.sign), 0
	case m.class == api.NaN && m.signal:
		return f.nan(m.sign, false, m.coef), invalid
	case m.class == api.NaN:
		return f.nan(m.sign, false, m.coef), 0
	}
	return f.finite(m.sign, m.coef, m.exp), 0
}

// stays fails unless a pattern becomes its canonical one in its own format, in every direction, and that one stays as it is. A binary pattern is canonical.
func (f format) stays(t *testing.T, b api.Bits) {
	t.Helper()
	want, flags := f.own(b)
	if f.base == 2 && flags == 0 && want != b {
		t.Fatalf("the oracle isn't at one with itself: %x of %d", b, f.number)
	}
	always(t, f.number, f.number, b, want, flags)
	always(t, f.number, f.number, want, want, 0)
}

// P22.2: all patterns of the two smallest formats.
func TestP22_2_AllPatterns(t *testing.T) {
	each(t, binaries[:2], func(t *testing.T, f format) {
		for n := range int64(1 << f.width) {
			f.stays(t, toBits(big.NewInt(n)))
		}
	})
}

// P22.2: the edges of every format, NaNs, patterns that aren't canonical, and drawn ones.
func TestP22_2_Itself(t *testing.T) {
	each(t, formats, func(t *testing.T, f format) {
		for _, b := range append(f.edges(), f.nans(f.payloads())...) {
			f.stays(t, b)
			f.stays(t, f.negated(b))
		}
		for n := range f.width {
			f.stays(t, toBits(two(n)))
			f.stays(t, toBits(plus(two(n), -1)))
			f.stays(t, toBits(new(big.Int).Sub(two(f.width), two(n))))
		}
		for seed := range uint64(1500) {
			f.stays(t, f.drawn(seed))
			f.stays(t, f.near(seed))
			f.stays(t, f.tiny(seed))
		}
	})
}

// P22.2: a decimal pattern that isn't canonical becomes the one that is, as layer 14 has it.
func TestP22_2_Canonical(t *testing.T) {
	each(t, decimals, func(t *testing.T, f format) {
		var list []api.Bits
		for _, pair := range f.strange() {
			list = append(list, pair[0], pair[1])
			want, flags := f.own(pair[0])
			always(t, f.number, f.number, pair[1], want, flags)
		}
		for seed := range uint64(3000) {
			list = append(list, f.drawn(seed+1<<20))
		}
		for i, b := range list {
			_, _, signal, _ := convert.Class(f.number, b)
			want, errno := decimal.Canonical(f.number, b)
			if errno != api.OK {
				t.Fatalf("Canonical(%d, %x): %d", f.number, b, errno)
			}
			if signal {
				// What layer 14 has still signals.
				want, _ = f.own(want)
				converts(t, f.number, f.number, directions[i%5], b, want, invalid)
			} else {
				converts(t, f.number, f.number, directions[i%5], b, want, 0)
			}
		}
	})
}

// P22.2: a binary pattern stays as it is, but that of a NaN that signals, which becomes what layer 5's Quiet has.
func TestP22_2_Quiet(t *testing.T) {
	each(t, binaries, func(t *testing.T, f format) {
		list := append(f.edges(), f.nans(f.payloads())...)
		for seed := range uint64(3000) {
			list = append(list, f.drawn(seed+1<<20))
		}
		for i, b := range list {
			_, _, signal, _ := convert.Class(f.number, b)
			want, errno := binary.Quiet(f.number, b)
			flags := 0
			if signal {
				flags = invalid
			}
			if errno != api.OK || !signal && want != b {
				t.Fatalf("Quiet(%d, %x): %x %d", f.number, b, want, errno)
			}
			converts(t, f.number, f.number, directions[i%5], b, want, flags)
		}
	})
}

// TestItselfWritten holds patterns into their own format without the oracle on either side.
func TestItselfWritten(t *testing.T) {
	for _, c := range []struct {
		number  int
		b, want api.Bits
		flags   int
	}{
		{1, api.Bits{0x8000}, api.Bits{0x8000}, 0},
		{1, api.Bits{0x0001}, api.Bits{0x0001}, 0},
		{2, api.Bits{0xff80}, api.Bits{0xff80}, 0},
		{3, api.Bits{0x7f7fffff}, api.Bits{0x7f7fffff}, 0},
		{3, api.Bits{0x7fc00005}, api.Bits{0x7fc00005}, 0},
		{3, api.Bits{0xff800005}, api.Bits{0xffc00005}, invalid},
		{6, api.Bits{1, 0, 0, 0x7fff000000000000}, api.Bits{1, 0, 0, 0x7fff800000000000}, invalid},
		{7, api.Bits{0x6cb89680}, api.Bits{0x32800000}, 0},
		{7, api.Bits{0xecbfffff}, api.Bits{0xb2800000}, 0},
		{7, api.Bits{0x7c0f4240}, api.Bits{0x7c000000}, 0},
		{7, api.Bits{0x7effffff}, api.Bits{0x7c000000}, invalid},
		{7, api.Bits{0xfbffffff}, api.Bits{0xf8000000}, 0},
		{10, api.Bits{0x225003ff}, api.Bits{0x225000ff}, 0},
		{10, api.Bits{0x22400010}, api.Bits{0x22400010}, 0},
		{10, api.Bits{0x7df003ff}, api.Bits{0x7c0000ff}, 0},
		{10, api.Bits{0xfe0003ff}, api.Bits{0xfc0000ff}, invalid},
		{12, api.Bits{1, 0x7bffffffffffffff}, api.Bits{0, 0x7800000000000000}, 0},
	} {
		always(t, c.number, c.number, c.b, c.want, c.flags)
	}
}
