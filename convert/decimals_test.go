package convert_test

import (
	"math/big"
	"strconv"
	"strings"
	"testing"

	"caliper/api"
	"caliper/convert"
	"caliper/transcode"
)

// numeral is the pattern of a decimal number by its digits, perhaps behind a -, and its exponent behind an e.
func (f format) numeral(text string) api.Bits {
	digits, exp, _ := strings.Cut(text, "e")
	n, err := strconv.Atoi(exp)
	if err != nil {
		panic(text)
	}
	return f.digits(strings.HasPrefix(digits, "-"), strings.TrimPrefix(digits, "-"), n)
}

// of are the plain and the dense format of a width.
func of(width int) []format {
	var list []format
	for _, f := range decimals {
		if f.width == width {
			list = append(list, f)
		}
	}
	return list
}

// becomes fails unless a number of the formats of a width becomes another one, or an infinity, of those of another width, plain and dense.
func becomes(t *testing.T, from, to, direction int, text, want string, flags int) {
	t.Helper()
	for _, f := range of(from) {
		for _, g := range of(to) {
			wanted := g.infinity(want == "-inf")
			if !strings.HasSuffix(want, "inf") {
				wanted = g.numeral(want)
			}
			converts(t, f.number, g.number, direction, f.numeral(text), wanted, flags)
		}
	}
}

// P22.1: coefficients with more digits than the new format has, without the oracle: to the nearest, towards 0, upwards and downwards, also so that there is one digit more, and beyond the greatest number.
func TestP22_1_MoreDigits(t *testing.T) {
	for _, c := range []struct {
		from, to  int
		text      string
		even, awa string
		low, high string
		flags     int
	}{
		{64, 32, "12345678e0", "1234568e1", "1234568e1", "1234567e1", "1234568e1", inexact},
		{64, 32, "12345674e0", "1234567e1", "1234567e1", "1234567e1", "1234568e1", inexact},
		{64, 32, "12345675e0", "1234568e1", "1234568e1", "1234567e1", "1234568e1", inexact},
		{64, 32, "12345665e0", "1234566e1", "1234567e1", "1234566e1", "1234567e1", inexact},
		{64, 32, "1234566500000001e-30", "1234567e-21", "1234567e-21", "1234566e-21", "1234567e-21", inexact},
		{64, 32, "1234566499999999e-30", "1234566e-21", "1234566e-21", "1234566e-21", "1234567e-21", inexact},
		{64, 32, "99999995e0", "1000000e2", "1000000e2", "9999999e1", "1000000e2", inexact},
		{64, 32, "99999994e0", "9999999e1", "9999999e1", "9999999e1", "1000000e2", inexact},
		{64, 32, "9999999999999999e-50", "1000000e-40", "1000000e-40", "9999999e-41", "1000000e-40", inexact},
		{64, 32, "1000000000000001e5", "1000000e14", "1000000e14", "1000000e14", "1000001e14", inexact},
		{128, 32, "1234567890123456789012345678901234e-10", "1234568e17", "1234568e17", "1234567e17", "1234568e17", inexact},
		{128, 64, "1234567890123456789012345678901234e-10", "1234567890123457e8", "1234567890123457e8", "1234567890123456e8", "1234567890123457e8", inexact},
		{128, 64, "12345678901234565e0", "1234567890123456e1", "1234567890123457e1", "1234567890123456e1", "1234567890123457e1", inexact},
		{128, 64, "9999999999999999999999999999999999e-34", "1000000000000000e-15", "1000000000000000e-15", "9999999999999999e-16", "1000000000000000e-15", inexact},
		// Below the least number of full length.
		{64, 32, "12345678e-103", "123457e-101", "123457e-101", "123456e-101", "123457e-101", underflow},
		{64, 32, "99999985e-102", "9999998e-101", "9999999e-101", "9999998e-101", "9999999e-101", inexact},
		{64, 32, "99999995e-103", "1000000e-101", "1000000e-101", "999999e-101", "1000000e-101", underflow},
		{64, 32, "15e-102", "2e-101", "2e-101", "1e-101", "2e-101", underflow},
		{64, 32, "25e-102", "2e-101", "3e-101", "2e-101", "3e-101", underflow},
		{64, 32, "5e-102", "0e-101", "1e-101", "0e-101", "1e-101", underflow},
		{64, 32, "4e-102", "0e-101", "0e-101", "0e-101", "1e-101", underflow},
		{64, 32, "6e-102", "1e-101", "1e-101", "0e-101", "1e-101", underflow},
		{64, 32, "1e-398", "0e-101", "0e-101", "0e-101", "1e-101", underflow},
		{128, 64, "5e-399", "0e-398", "1e-398", "0e-398", "1e-398", underflow},
		{128, 64, "1e-6176", "0e-398", "0e-398", "0e-398", "1e-398", underflow},
		{128, 32, "500000000000000000000000000000001e-134", "1e-101", "1e-101", "0e-101", "1e-101", underflow},
		// Beyond the greatest number.
		{64, 32, "99999994e89", "9999999e90", "9999999e90", "9999999e90", "inf", inexact},
		{64, 32, "99999995e89", "inf", "inf", "9999999e90", "inf", inexact},
		{128, 64, "99999999999999994e368", "9999999999999999e369", "9999999999999999e369", "9999999999999999e369", "inf", inexact},
		{128, 64, "99999999999999995e368", "inf", "inf", "9999999999999999e369", "inf", inexact},
	} {
		for _, sign := range []string{"", "-"} {
			up, down := c.high, c.low
			if sign != "" {
				up, down = c.low, c.high
			}
			for i, want := range []string{c.even, c.awa, c.low, up, down} {
				flags := c.flags
				if want == "inf" {
					flags = overflow
				}
				becomes(t, c.from, c.to, directions[i], sign+c.text, sign+want, flags)
			}
		}
	}
}

// P22.1: numbers that the new format has come out exactly, in every direction, with the exponent that they had, or the nearest one with which there is room.
func TestP22_1_Exponents(t *testing.T) {
	for _, c := range []struct {
		from, to   int
		text, want string
	}{
		{32, 32, "1200e3", "1200e3"},
		{32, 64, "1e0", "1e0"},
		{32, 64, "1200e3", "1200e3"},
		{32, 64, "9999999e90", "9999999e90"},
		{32, 64, "1e-101", "1e-101"},
		{32, 128, "1000000e-101", "1000000e-101"},
		{64, 128, "9999999999999999e369", "9999999999999999e369"},
		{64, 32, "1200e3", "1200e3"},
		{64, 32, "1234567e0", "1234567e0"},
		// Noughts at the end, as many as must go.
		{64, 32, "12345670e0", "1234567e1"},
		{64, 32, "1234567000000000e-9", "1234567e0"},
		{64, 32, "12000000000e0", "1200000e4"},
		{64, 32, "1000000000000000e-15", "1000000e-6"},
		{128, 32, "1000000000000000000000000000000000e0", "1000000e27"},
		{128, 64, "1000000000000000000000000000000000e0", "1000000000000000e18"},
		{128, 64, "1200000000000000000000000000000000e-6176", "0e-398"},
		// Above the greatest exponent: noughts are put behind it.
		{64, 32, "1e90", "1e90"},
		{64, 32, "1e91", "10e90"},
		{64, 32, "1e95", "100000e90"},
		{64, 32, "1e96", "1000000e90"},
		{64, 32, "9e96", "9000000e90"},
		{64, 32, "10e91", "100e90"},
		{64, 32, "99e94", "990000e90"},
		{128, 64, "1e384", "1000000000000000e369"},
		{128, 64, "12e370", "120e369"},
		// Below the least one: noughts go.
		{64, 32, "10e-102", "1e-101"},
		{64, 32, "100e-102", "10e-101"},
		{64, 32, "1000000e-107", "1e-101"},
		{64, 32, "1234567000e-104", "1234567e-101"},
		{128, 64, "1000000000000000e-413", "1e-398"},
		{128, 32, "1234567000000000000000000000000000e-128", "1234567e-101"},
		// 0 has every exponent.
		{64, 32, "0e90", "0e90"},
		{64, 32, "0e91", "0e90"},
		{64, 32, "0e300", "0e90"},
		{64, 32, "0e-101", "0e-101"},
		{64, 32, "0e-102", "0e-101"},
		{64, 32, "0e-398", "0e-101"},
		{32, 64, "0e-101", "0e-101"},
		{128, 64, "0e6111", "0e369"},
		{128, 64, "0e-6176", "0e-398"},
		{32, 128, "0e90", "0e90"},
	} {
		for _, sign := range []string{"", "-"} {
			for _, direction := range directions {
				if c.want == "0e-398" && !strings.HasPrefix(c.text, "0e") {
					continue
				}
				becomes(t, c.from, c.to, direction, sign+c.text, sign+c.want, 0)
			}
		}
	}
}

// cohorts are numbers with many members: small coefficients at the exponents of a format's edges and of all the others'.
func (f format) cohorts() []place {
	var list []place
	for _, coef := range []int64{1, 25, 1234567} {
		for _, exp := range []int{f.least, -398, -105, -101, -20, 0, 3, 84, 90, 96, 369, f.most} {
			if exp >= f.least && exp <= f.most {
				list = append(list, place{big.NewInt(coef), exp})
			}
		}
	}
	return list
}

// P22.1: members of one cohort become members of one cohort, each the one nearest to its own exponent, and all the same number of a binary format.
func TestP22_1_Cohorts(t *testing.T) {
	each(t, decimals, func(t *testing.T, f format) {
		for _, at := range f.cohorts() {
			members := f.members(at.coef, at.exp)
			for _, g := range formats {
				first, flags, _ := convert.Convert(f.number, g.number, api.Even, members[0])
				for i, b := range members {
					f.turn(t, g, (i+g.number)%5, b)
					f.turn(t, g, (i+g.number+2)%5, f.negated(b))
					if g.base == 2 {
						converts(t, f.number, g.number, api.Even, b, first, flags)
					}
				}
			}
		}
	})
}

// P22.1: of a number that the new format has the exponent is the nearest to the old one: no other member's is nearer, by trying each of them.
func TestP22_1_Nearest(t *testing.T) {
	each(t, decimals, func(t *testing.T, f format) {
		for _, at := range f.cohorts() {
			for _, b := range f.members(at.coef, at.exp) {
				for _, g := range decimals {
					got, flags, errno := convert.Convert(f.number, g.number, api.Up, b)
					if flags != 0 || errno != api.OK {
						continue
					}
					m, n := f.of(b), g.of(got)
					if m.coef.Sign() == 0 || n.coef.Sign() == 0 {
						t.Errorf("%x of %d: %x of %d", b, f.number, got, g.number)
						continue
					}
					far := max(m.exp-n.exp, n.exp-m.exp)
					for _, other := range g.members(n.coef, n.exp) {
						if exp := g.of(other).exp; max(m.exp-exp, exp-m.exp) < far {
							t.Errorf("%x of %d: %x of %d, but %x is nearer", b, f.number, got, g.number, other)
						}
					}
				}
			}
		}
	})
}

// P22.1: of dense ones into plain ones, and back, everything means the same, but that NaNs don't signal any more: it is what layer 17 has.
func TestP22_1_Twins(t *testing.T) {
	each(t, decimals, func(t *testing.T, f format) {
		g := numbered(f.twin)
		list := append(f.edges(), f.nans(f.payloads())...)
		for seed := range uint64(1500) {
			list = append(list, f.drawn(seed), f.near(seed), f.tiny(seed))
		}
		for _, pair := range f.strange() {
			list = append(list, pair[0], pair[1])
		}
		for i, b := range list {
			m := f.of(b)
			flags := 0
			if m.signal {
				b, flags = f.nan(m.sign, true, m.coef), invalid
			}
			code, errno := transcode.Code(f.number, b)
			if m.signal {
				code = g.nan(m.sign, false, m.coef)
			}
			own, wrong := transcode.Code(g.number, code)
			if errno != api.OK || wrong != api.OK {
				t.Fatalf("Code(%d, %x): %d %d", f.number, b, errno, wrong)
			}
			converts(t, f.number, g.number, directions[i%5], b, code, flags)
			converts(t, g.number, f.number, directions[i%5], code, own, 0)
		}
	})
}

// P22.1: patterns that aren't canonical become what those become that mean the same, in every format and direction.
func TestP22_1_NotCanonical(t *testing.T) {
	each(t, decimals, func(t *testing.T, f format) {
		for _, pair := range f.strange() {
			for _, g := range formats {
				for _, direction := range directions {
					want, flags, errno := convert.Convert(f.number, g.number, direction, pair[0])
					if errno != api.OK {
						t.Fatalf("Convert(%d, %d, %d, %x): %d", f.number, g.number, direction, pair[0], errno)
					}
					converts(t, f.number, g.number, direction, pair[1], want, flags)
				}
			}
			f.goes(t, pair[0])
		}
	})
	// Some of them without the oracle: 999 with another declet, 10^7 as a coefficient and 10^6 as a payload, which count as 0, and bits that mean nothing.
	always(t, 10, 11, api.Bits{0x225003ff}, api.Bits{0x22380000000000ff}, 0)
	always(t, 10, 3, api.Bits{0x225003ff}, api.Bits{0x4479c000}, 0)
	always(t, 7, 10, api.Bits{0x6cb89680}, api.Bits{0x22500000}, 0)
	always(t, 7, 3, api.Bits{0xecb89680}, api.Bits{0x80000000}, 0)
	always(t, 7, 11, api.Bits{0x7c0f4240}, api.Bits{0x7c00000000000000}, 0)
	always(t, 7, 10, api.Bits{0xfe0fffff}, api.Bits{0xfc000000}, invalid)
	always(t, 10, 7, api.Bits{0x7bffffff}, api.Bits{0x78000000}, 0)
	always(t, 10, 1, api.Bits{0xf8000001}, api.Bits{0xfc00}, 0)
	always(t, 11, 7, api.Bits{0x7dfc000000000005}, api.Bits{0x7c000005}, 0)
}
