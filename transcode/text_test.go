package transcode_test

import (
	"fmt"
	"strings"
	"testing"

	"caliper/api"
	"caliper/dectext"
	"caliper/transcode"
)

// P17.3: texts with their patterns in both formats, written out: they hang on no oracle.
func TestP17_3_Patterns(t *testing.T) {
	for _, c := range []struct {
		plain        int
		s            string
		first, other api.Bits
		flags        int
	}{
		{7, "1", api.Bits{0x32800001}, api.Bits{0x22500001}, 0},
		{7, "1.20", api.Bits{0x31800078}, api.Bits{0x223000a0}, 0},
		{7, "-7.50", api.Bits{0xb18002ee}, api.Bits{0xa23003d0}, 0},
		{7, "9999999e90", api.Bits{0x77f8967f}, api.Bits{0x77f3fcff}, 0},
		{7, "0e-102", api.Bits{}, api.Bits{}, 0},
		{7, "1e97", api.Bits{0x78000000}, api.Bits{0x78000000}, api.Overflow + api.Inexact},
		{7, "99999995e89", api.Bits{0x78000000}, api.Bits{0x78000000}, api.Overflow + api.Inexact},
		{7, "9999999.4", api.Bits{0x6cb8967f}, api.Bits{0x6e53fcff}, api.Inexact},
		{7, "1.5e-101", api.Bits{2}, api.Bits{2}, api.Underflow + api.Inexact},
		{7, "nan(999999)", api.Bits{0x7c0f423f}, api.Bits{0x7c03fcff}, 0},
		{7, "snan(1000000)", api.Bits{0x7e000000}, api.Bits{0x7e000000}, 0},
		{7, "-inf", api.Bits{0xf8000000}, api.Bits{0xf8000000}, 0},
		{8, "1", api.Bits{0x31c0000000000001}, api.Bits{0x2238000000000001}, 0},
		{8, "9999999999999999e369", api.Bits{0x77fb86f26fc0ffff}, api.Bits{0x77fcff3fcff3fcff}, 0},
		{8, "snan(1)", api.Bits{0x7e00000000000001}, api.Bits{0x7e00000000000001}, 0},
		{9, "1", api.Bits{1, 0x3040000000000000}, api.Bits{1, 0x2208000000000000}, 0},
		{9, nines(34) + "e6111", api.Bits{0x378d8e63ffffffff, 0x5fffed09bead87c0}, api.Bits{0xf3fcff3fcff3fcff, 0x77ffcff3fcff3fcf}, 0},
	} {
		f := numbered(c.plain)
		reads(t, f.number, c.s, c.first, c.flags)
		reads(t, f.twin, c.s, c.other, c.flags)
		codes(t, f.number, c.first, c.other)
		codes(t, f.twin, c.other, c.first)
	}
}

// reads fails unless the text reads so, to the nearest.
func reads(t *testing.T, number int, s string, want api.Bits, wantFlags int) {
	t.Helper()
	if b, flags, errno := dectext.Read(number, api.Even, s); b != want || flags != wantFlags || errno != api.OK {
		t.Errorf("Read(%d, %s): %x %d %d, not %x %d", number, s, b, flags, errno, want, wantFlags)
	}
}

// through fails unless a text, with both signs and in every direction, comes to the same in both formats, with the same flags; and what was read in the first and coded has the text of what was read in the second.
func (f format) through(t *testing.T, s string) {
	t.Helper()
	for _, s := range []string{s, "-" + s} {
		for _, direction := range directions {
			b, flags, errno := dectext.Read(f.number, direction, s)
			twins, twinFlags, twinErrno := dectext.Read(f.twin, direction, s)
			if flags != twinFlags || errno != api.OK || twinErrno != api.OK {
				t.Errorf("%.60s, %d, direction %d: %d %d; %d: %d %d", s, f.number, direction, flags, errno, f.twin, twinFlags, twinErrno)
			}
			codes(t, f.number, b, twins)
			codes(t, f.twin, twins, b)
			f.oneText(t, b, twins)
			f.readBack(t, direction, b, twins)
		}
	}
}

// readBack fails unless the text that the one has is read as the other, without flags.
func (f format) readBack(t *testing.T, direction int, b, code api.Bits) {
	t.Helper()
	s, _ := dectext.Write(f.number, b)
	if twins, flags, errno := dectext.Read(f.twin, direction, s); twins != code || flags != 0 || errno != api.OK {
		t.Errorf("Read(%d, %d, %s): %x %d %d, not %x", f.twin, direction, s, twins, flags, errno, code)
	}
}

// P17.3: finite texts: with all digits, fewer and more, at exponents within the bounds, about them and beyond, exact ones and middles.
func TestP17_3_Finite(t *testing.T) {
	each(t, func(t *testing.T, f format) {
		exps := []int{f.least - f.precision - 1, f.least - f.precision, f.least - 1, f.least, f.least + 1, -1, 0, 1, f.most - 1, f.most, f.most + 1, f.most + f.precision - 1, f.most + f.precision, -1000000000, 1000000000}
		for i, digits := range []string{"0", "1", "5", "9", "10", "49", "50", "51", "1" + noughts(f.precision-1), nines(f.precision), nines(f.precision) + "4", nines(f.precision) + "5", "1" + noughts(f.precision), "1" + noughts(f.precision-1) + "5", "1" + noughts(f.precision-2) + "15", "1" + noughts(f.precision-1) + "5" + noughts(60) + "1", drawn(f.precision, 1), drawn(f.precision+1, 2), drawn(70, 3), "8" + drawn(f.precision-1, 4)} {
			for _, exp := range exps {
				f.through(t, fmt.Sprintf("%se%d", digits, exp))
			}
			point := i % (len(digits) + 1)
			f.through(t, "0"+digits[:point]+"."+digits[point:]+"00")
		}
		for _, s := range []string{"0", "0.000", "00.e5", "0e-99999999999999999999", "0E+99999999999999999999", "1e99999999999999999999", "1e-99999999999999999999", strings.Repeat("7", 3999), "0." + strings.Repeat("3", 3900)} {
			f.through(t, s)
		}
	})
}

// P17.3: texts of infinities and NaNs, with payloads of every number of digits, and such as are too great.
func TestP17_3_Others(t *testing.T) {
	each(t, func(t *testing.T, f format) {
		for _, s := range []string{"inf", "Infinity", "nan", "sNaN", "nan(0)", "snan(000)", "nan(0005)", "nan(" + nines(3900) + ")"} {
			f.through(t, s)
		}
		for count := 1; count <= f.precision+2; count++ {
			for _, payload := range []string{"1" + noughts(count-1), nines(count), drawn(count, uint64(count))} {
				f.through(t, "nan("+payload+")")
				f.through(t, "snan(00"+payload+")")
			}
		}
	})
}

// P17.3: a text that is refused in the one is refused in the other, with the same error.
func TestP17_3_Refused(t *testing.T) {
	for _, f := range formats {
		for _, s := range []string{"", ".", "1e", "nan()", "x", " 1", "0x1p0", "--1", "1e5.0", "inf(1)", strings.Repeat("1", api.MostText+1), strings.Repeat("x", api.MostText+1)} {
			for _, direction := range directions {
				b, flags, errno := dectext.Read(f.number, direction, s)
				twins, twinFlags, twinErrno := dectext.Read(f.twin, direction, s)
				if b != nothing || twins != nothing || flags != 0 || twinFlags != 0 || errno == api.OK || errno != twinErrno {
					t.Errorf("%.60q, %d, direction %d: %x %d %d; %d: %x %d %d", s, f.number, direction, b, flags, errno, f.twin, twins, twinFlags, twinErrno)
				}
			}
		}
	}
}

// P17.3: many drawn texts of every format.
func TestP17_3_DrawnTexts(t *testing.T) {
	each(t, func(t *testing.T, f format) {
		for seed := range uint64(1200) {
			digits := drawn(1+int(seed)%(2*f.precision), seed+1<<22)
			exp := f.least - 50 + int(high(seed+1<<23, 30).Int64())%(f.most-f.least+100)
			point := int(seed/3) % (len(digits) + 1)
			f.through(t, fmt.Sprintf("%s.%se%d", digits[:point], digits[point:], exp))
		}
	})
}

// P17.3: many drawn patterns, canonical and not: one text, which is read in both formats, in every direction, as one another's Codes.
func TestP17_3_DrawnPatterns(t *testing.T) {
	each(t, func(t *testing.T, f format) {
		for seed := range uint64(1500) {
			b := toBits(high(seed+1<<24, f.width))
			code, errno := transcode.Code(f.number, b)
			if errno != api.OK {
				t.Fatalf("Code(%d, %x): %d", f.number, b, errno)
			}
			f.oneText(t, b, code)
			own, _ := transcode.Code(f.twin, code)
			for _, direction := range directions {
				f.readBack(t, direction, b, code)
				numbered(f.twin).readBack(t, direction, code, own)
			}
		}
	})
}
