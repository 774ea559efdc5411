package dectext_test

import (
	"fmt"
	"math/big"
	"strconv"
	"strings"
	"testing"

	"caliper/api"
	"caliper/dectext"
	"caliper/grammar"
)

// The chapter's examples.
func TestExamples(t *testing.T) {
	reads(t, api.Dense32, api.Even, "1.20", api.Bits{0x223000a0}, 0)
	writes(t, api.Dense32, api.Bits{0x223000a0}, "1.20e0")
	reads(t, api.Plain32, api.Even, "1e97", api.Bits{0x78000000}, overflow)
	writes(t, api.Plain32, formats[0].pattern(finite(false, "120", -1)), "1.20e1")
	writes(t, api.Plain32, formats[0].pattern(finite(false, "", 5)), "0e5")
}

// P16.1: patterns written out, of every format: they hang neither on the oracle nor on another layer.
func TestP16_1_Patterns(t *testing.T) {
	for _, c := range []struct {
		number int
		s      string
		b      api.Bits
		text   string
	}{
		{api.Plain32, "1", api.Bits{0x32800001}, "1e0"},
		{api.Plain32, "1.20", api.Bits{0x31800078}, "1.20e0"},
		{api.Plain32, "-0.00", api.Bits{0xb1800000}, "-0e-2"},
		{api.Plain32, "9999999e90", api.Bits{0x77f8967f}, "9.999999e96"},
		{api.Plain32, "1e-101", api.Bits{1}, "1e-101"},
		{api.Plain32, "0e-101", api.Bits{}, "0e-101"},
		{api.Plain32, "-inf", api.Bits{0xf8000000}, "-inf"},
		{api.Plain32, "nan(999999)", api.Bits{0x7c0f423f}, "nan(999999)"},
		{api.Plain32, "-snan(7)", api.Bits{0xfe000007}, "-snan(7)"},
		{api.Plain64, "1", api.Bits{0x31c0000000000001}, "1e0"},
		{api.Plain64, "9999999999999999e369", api.Bits{0x77fb86f26fc0ffff}, "9.999999999999999e384"},
		{api.Plain64, "inf", api.Bits{0x7800000000000000}, "inf"},
		{api.Plain64, "snan", api.Bits{0x7e00000000000000}, "snan"},
		{api.Plain128, "1", api.Bits{1, 0x3040000000000000}, "1e0"},
		{api.Plain128, "-" + nines(34) + "e6111", api.Bits{0x378d8e63ffffffff, 0xdfffed09bead87c0}, "-9." + nines(33) + "e6144"},
		{api.Plain128, "nan", api.Bits{0, 0x7c00000000000000}, "nan"},
		{api.Dense32, "1", api.Bits{0x22500001}, "1e0"},
		{api.Dense32, "-1.00e1", api.Bits{0xa2400080}, "-1.00e1"},
		{api.Dense32, "9999999e90", api.Bits{0x77f3fcff}, "9.999999e96"},
		{api.Dense32, "1e-101", api.Bits{1}, "1e-101"},
		{api.Dense32, "nan(999999)", api.Bits{0x7c03fcff}, "nan(999999)"},
		{api.Dense32, "-snan(5)", api.Bits{0xfe000005}, "-snan(5)"},
		{api.Dense64, "1.20", api.Bits{0x22300000000000a0}, "1.20e0"},
		{api.Dense64, "9999999999999999e369", api.Bits{0x77fcff3fcff3fcff}, "9.999999999999999e384"},
		{api.Dense64, "-inf", api.Bits{0xf800000000000000}, "-inf"},
		{api.Dense128, "1", api.Bits{1, 0x2208000000000000}, "1e0"},
		{api.Dense128, nines(34) + "e6111", api.Bits{0xf3fcff3fcff3fcff, 0x77ffcff3fcff3fcf}, "9." + nines(33) + "e6144"},
		{api.Dense128, "snan(1)", api.Bits{1, 0x7e00000000000000}, "snan(1)"},
	} {
		for _, direction := range directions {
			reads(t, c.number, direction, c.s, c.b, 0)
			reads(t, c.number, direction, c.text, c.b, 0)
		}
		writes(t, c.number, c.b, c.text)
	}
}

// row is a text of the formats of 32 bits, and what it is, as a text, in each of the five directions, in their order, with the flags.
type row struct {
	s     string
	taken [5]string
	flags [5]int
}

// all says one answer for all directions.
func all(text string) [5]string { return [5]string{text, text, text, text, text} }

// with says one flag sum for all directions.
func with(flags int) [5]int { return [5]int{flags, flags, flags, flags, flags} }

// The rows are worked out by hand from the document's words: they don't hang on the oracle.
var rows = []row{
	// Each keeps its exponent, whatever noughts stand behind it.
	{"1", all("1e0"), with(0)},
	{"1.0", all("1.0e0"), with(0)},
	{"1.000000", all("1.000000e0"), with(0)},
	{"1.0000000", all("1.000000e0"), with(0)},
	{"100", all("1.00e2"), with(0)},
	{"100e-2", all("1.00e0"), with(0)},
	{"1e2", all("1e2"), with(0)},
	{"0.00120E+3", all("1.20e0"), with(0)},
	{"12345670", all("1.234567e7"), with(0)},
	{"1000000000000", all("1.000000e12"), with(0)},
	// Noughts, with exponents within the bounds and beyond.
	{"0", all("0e0"), with(0)},
	{"0.000", all("0e-3"), with(0)},
	{"000.e5", all("0e5"), with(0)},
	{"0e-101", all("0e-101"), with(0)},
	{"0e-102", all("0e-101"), with(0)},
	{"0e90", all("0e90"), with(0)},
	{"0e91", all("0e90"), with(0)},
	{"0e99999999999999999999", all("0e90"), with(0)},
	{"0e-99999999999999999999", all("0e-101"), with(0)},
	// Below the middle, at it, with an even and an odd one below, and above it.
	{"12345674", [5]string{"1.234567e7", "1.234567e7", "1.234567e7", "1.234568e7", "1.234567e7"}, with(inexact)},
	{"12345665", [5]string{"1.234566e7", "1.234567e7", "1.234566e7", "1.234567e7", "1.234566e7"}, with(inexact)},
	{"12345675", [5]string{"1.234568e7", "1.234568e7", "1.234567e7", "1.234568e7", "1.234567e7"}, with(inexact)},
	{"12345665.00000000001", [5]string{"1.234567e7", "1.234567e7", "1.234566e7", "1.234567e7", "1.234566e7"}, with(inexact)},
	{"12345674.99999999999", [5]string{"1.234567e7", "1.234567e7", "1.234567e7", "1.234568e7", "1.234567e7"}, with(inexact)},
	{"12345678", [5]string{"1.234568e7", "1.234568e7", "1.234567e7", "1.234568e7", "1.234567e7"}, with(inexact)},
	// What isn't exact keeps its noughts.
	{"12000001", [5]string{"1.200000e7", "1.200000e7", "1.200000e7", "1.200001e7", "1.200000e7"}, with(inexact)},
	// Nines that carry on.
	{"99999994", [5]string{"9.999999e7", "9.999999e7", "9.999999e7", "1.000000e8", "9.999999e7"}, with(inexact)},
	{"99999995", [5]string{"1.000000e8", "1.000000e8", "9.999999e7", "1.000000e8", "9.999999e7"}, with(inexact)},
	{"19999999.9", [5]string{"2.000000e7", "2.000000e7", "1.999999e7", "2.000000e7", "1.999999e7"}, with(inexact)},
	// Beyond Most, as far as the digits allow, and one further.
	{"1e90", all("1e90"), with(0)},
	{"1e91", all("1.0e91"), with(0)},
	{"1e95", all("1.00000e95"), with(0)},
	{"1e96", all("1.000000e96"), with(0)},
	{"1e97", [5]string{"inf", "inf", "9.999999e96", "inf", "9.999999e96"}, with(overflow)},
	{"9999999e90", all("9.999999e96"), with(0)},
	{"9999999e91", [5]string{"inf", "inf", "9.999999e96", "inf", "9.999999e96"}, with(overflow)},
	{"99999994e89", [5]string{"9.999999e96", "9.999999e96", "9.999999e96", "inf", "9.999999e96"}, [5]int{inexact, inexact, inexact, overflow, inexact}},
	{"99999995e89", [5]string{"inf", "inf", "9.999999e96", "inf", "9.999999e96"}, [5]int{overflow, overflow, inexact, overflow, inexact}},
	{"1e99999999999999999999", [5]string{"inf", "inf", "9.999999e96", "inf", "9.999999e96"}, with(overflow)},
	// Below Least, with noughts to spare, and without.
	{"1e-101", all("1e-101"), with(0)},
	{"10e-102", all("1e-101"), with(0)},
	{"1000000e-107", all("1e-101"), with(0)},
	{"12000000000e-110", all("1.2e-100"), with(0)},
	{"1e-102", [5]string{"0e-101", "0e-101", "0e-101", "1e-101", "0e-101"}, with(underflow)},
	{"5e-102", [5]string{"0e-101", "1e-101", "0e-101", "1e-101", "0e-101"}, with(underflow)},
	{"5.000001e-102", [5]string{"1e-101", "1e-101", "0e-101", "1e-101", "0e-101"}, with(underflow)},
	{"4.999999e-102", [5]string{"0e-101", "0e-101", "0e-101", "1e-101", "0e-101"}, with(underflow)},
	{"1.5e-101", [5]string{"2e-101", "2e-101", "1e-101", "2e-101", "1e-101"}, with(underflow)},
	{"2.5e-101", [5]string{"2e-101", "3e-101", "2e-101", "3e-101", "2e-101"}, with(underflow)},
	{"9.999995e-96", [5]string{"1.000000e-95", "1.000000e-95", "9.99999e-96", "1.000000e-95", "9.99999e-96"}, with(underflow)},
	{"1.0000001e-95", [5]string{"1.000000e-95", "1.000000e-95", "1.000000e-95", "1.000001e-95", "1.000000e-95"}, with(inexact)},
	{"1e-99999999999999999999", [5]string{"0e-101", "0e-101", "0e-101", "1e-101", "0e-101"}, with(underflow)},
	// What is no finite number raises nothing.
	{"inf", all("inf"), with(0)},
	{"INFINITY", all("inf"), with(0)},
	{"nan", all("nan"), with(0)},
	{"sNaN", all("snan"), with(0)},
	{"NaN(0005)", all("nan(5)"), with(0)},
	{"nan(999999)", all("nan(999999)"), with(0)},
	{"nan(1000000)", all("nan"), with(0)},
	{"snan(999999)", all("snan(999999)"), with(0)},
	{"snan(1000000)", all("snan"), with(0)},
}

// P16.1: rows written out by hand, as they are and with the other sign, which turns Up into Down, plain and dense.
func TestP16_1_Rows(t *testing.T) {
	turned := map[int]int{api.Even: api.Even, api.Away: api.Away, api.Zero: api.Zero, api.Up: api.Down, api.Down: api.Up}
	for _, number := range []int{api.Plain32, api.Dense32} {
		for _, c := range rows {
			for _, direction := range directions {
				for ahead, from := range map[string]int{"": direction, "+": direction, "-": turned[direction]} {
					want := c.taken[from]
					if ahead == "-" {
						want = "-" + want
					}
					b, flags, errno := dectext.Read(number, direction, ahead+c.s)
					text, _ := dectext.Write(number, b)
					if text != want || flags != c.flags[from] || errno != api.OK {
						t.Errorf("Read(%d, %d, %s%s): %s %d %d, not %s %d", number, direction, ahead, c.s, text, flags, errno, want, c.flags[from])
					}
				}
			}
		}
	}
}

// P16.1: the same digits and exponent in all ways of writing them: points at every place, noughts ahead, signs, letters.
func TestP16_1_Ways(t *testing.T) {
	each(t, func(t *testing.T, f format) {
		for _, count := range []int{0, 1, 2, f.precision - 1, f.precision, f.precision + 1, 2 * f.precision, 100} {
			for i, exp := range append(f.exps(), f.least-3, f.most+3, f.least-count, f.most-count+f.precision) {
				v := value{drawn(count, uint64(i)), exp}
				f.check(t, v, v.ways()...)
			}
		}
	})
}

// P16.1: a + ahead changes nothing.
func TestP16_1_Plus(t *testing.T) {
	each(t, func(t *testing.T, f format) {
		for _, s := range []string{"0", "1.50", "123e-400", "9e9999", "inf", "nan(3)", "snan"} {
			for _, direction := range directions {
				b, flags, errno := dectext.Read(f.number, direction, s)
				if errno != api.OK {
					t.Errorf("%s: %d", s, errno)
				}
				reads(t, f.number, direction, "+"+s, b, flags)
			}
		}
	})
}

// P16.1: one number with more and more noughts behind it: each keeps its exponent while there is room, and has all digits from then on.
func TestP16_1_NoughtsBehind(t *testing.T) {
	each(t, func(t *testing.T, f format) {
		for count := 1; count <= f.precision; count++ {
			digits := drawn(count-1, uint64(count)) + "3"
			for more := range f.precision - count + 4 {
				for _, exp := range f.exps() {
					v := value{digits + noughts(more), exp - more}
					f.check(t, v)
					if more <= f.precision-count && exp-more >= f.least {
						reads(t, f.number, api.Even, v.text(), f.pattern(finite(false, v.digits, v.exp)), 0)
					}
				}
			}
			for _, more := range []int{1000, 3900} {
				f.check(t, value{digits + noughts(more), -more})
			}
		}
	})
}

// P16.1: 0 with every exponent that a format has, and many beyond: the nearest one is taken, and nothing is raised.
func TestP16_1_Noughts(t *testing.T) {
	each(t, func(t *testing.T, f format) {
		exps := []int{-billion, -billion + 1, -20000, 20000, billion - 1, billion}
		for exp := f.least - 40; exp <= f.most+40; exp++ {
			exps = append(exps, exp)
		}
		for _, exp := range exps {
			v := value{"", exp}
			f.check(t, v)
			near := f.pattern(finite(true, "", min(max(exp, f.least), f.most)))
			reads(t, f.number, api.Up, "-0e"+strconv.Itoa(exp), near, 0)
		}
		for _, s := range []string{"0", "0.", "00", "+0", "0e0", "0e-0", "0E+00", "00.e0", ".0e1", "0.000e3", "0." + noughts(3000) + "e3000"} {
			reads(t, f.number, api.Down, s, f.pattern(finite(false, "", 0)), 0)
		}
		for _, s := range []string{"0e1000000001", "0e99999999999999999999", "0.0e9223372036854775808", "0e" + nines(3900)} {
			reads(t, f.number, api.Zero, s, f.pattern(finite(false, "", f.most)), 0)
		}
		for _, s := range []string{"0e-1000000001", "0e-99999999999999999999", "0.0e-9223372036854775808", "0e-" + nines(3900)} {
			reads(t, f.number, api.Zero, s, f.pattern(finite(false, "", f.least)), 0)
		}
	})
}

// ends are digits behind those of a format that lie below the middle, at it, and above it, by little and by much.
func ends() []string {
	return []string{"0", "1", "4", "5", "6", "9", "00", "01", "49", "50", "51", "99", "4" + nines(60), "5" + noughts(60), "5" + noughts(60) + "1", noughts(60) + "1", nines(60), "4" + nines(3500), "5" + noughts(3500) + "1"}
}

// P16.1: one digit more than the format has, and more, below the middle, at it and above, with an even and an odd one below.
func TestP16_1_Middles(t *testing.T) {
	each(t, func(t *testing.T, f format) {
		for i, last := range []string{"0", "1", "2", "5", "8", "9"} {
			for _, digits := range []string{drawn(f.precision-1, uint64(i)), "1" + noughts(f.precision-2), nines(f.precision - 1)} {
				for _, end := range ends() {
					v := value{digits + last + end, f.exps()[(i+len(end))%9] - len(end)}
					f.check(t, v)
				}
			}
		}
	})
}

// P16.1: the same where fewer digits are left, since the exponent ends at Least: of every number of digits, and of none.
func TestP16_1_SmallMiddles(t *testing.T) {
	each(t, func(t *testing.T, f format) {
		for count := range f.precision {
			for i, last := range []string{"", "1", "2", "9"} {
				for _, digits := range []string{drawn(count, uint64(i)), nines(count)} {
					for _, end := range ends() {
						behind := strings.TrimLeft(digits+last+end, "0")
						if behind != "" {
							f.check(t, value{behind, f.least - len(end)})
						}
					}
				}
			}
		}
	})
}

// P16.1: nines that carry on, of every count, at all kinds of exponents.
func TestP16_1_Nines(t *testing.T) {
	each(t, func(t *testing.T, f format) {
		for _, count := range []int{1, 2, f.precision - 1, f.precision, f.precision + 1, f.precision + 2, f.precision + 40, 3900} {
			for _, exp := range f.exps() {
				for more := range 3 {
					f.check(t, value{nines(count), exp - count + f.precision + more - 1})
				}
			}
		}
	})
}

// P16.1: every exponent that a format has, and some beyond: with one digit, with all, and with one more.
func TestP16_1_EveryExponent(t *testing.T) {
	each(t, func(t *testing.T, f format) {
		for exp := f.least - f.precision - 3; exp <= f.most+f.precision+3; exp++ {
			v := value{drawn(1+(exp-f.least+2*f.precision)%(f.precision+2), uint64(exp-f.least)+99), exp}
			f.check(t, v)
			if f.precision < 34 || exp%7 == 0 {
				f.check(t, value{"1", exp})
				f.check(t, value{nines(f.precision), exp})
			}
		}
	})
}

// P16.1: exponents beyond Most, moved by noughts as far as the digits allow, and one further.
func TestP16_1_BeyondMost(t *testing.T) {
	each(t, func(t *testing.T, f format) {
		for count := 1; count <= f.precision; count++ {
			room := f.precision - count
			for _, digits := range []string{drawn(count, 3), nines(count), "1" + noughts(count-1)} {
				for beyond := range room + 1 {
					want := f.pattern(finite(false, digits+noughts(beyond), f.most))
					for _, direction := range directions {
						reads(t, f.number, direction, digits+"e"+strconv.Itoa(f.most+beyond), want, 0)
					}
				}
				f.check(t, value{digits, f.most + room})
				f.check(t, value{digits, f.most + room + 1})
				for direction, class := range map[int]int{api.Even: api.Infinite, api.Away: api.Infinite, api.Up: api.Infinite, api.Zero: api.Finite, api.Down: api.Finite} {
					want := api.Datum{Class: class}
					if class == api.Finite {
						want = finite(false, nines(f.precision), f.most)
					}
					reads(t, f.number, direction, digits+"e"+strconv.Itoa(f.most+room+1), f.pattern(want), overflow)
				}
			}
		}
	})
}

// P16.1: exponents below Least, brought back by noughts behind, and with one nought too few.
func TestP16_1_BelowLeast(t *testing.T) {
	each(t, func(t *testing.T, f format) {
		for count := 1; count <= f.precision; count++ {
			digits := drawn(count-1, uint64(count)) + "7"
			for _, more := range []int{1, 2, f.precision, 50, 1000} {
				want := f.pattern(finite(true, digits, f.least))
				for _, direction := range directions {
					reads(t, f.number, direction, "-"+digits+noughts(more)+"e"+strconv.Itoa(f.least-more), want, 0)
				}
				f.check(t, value{digits + noughts(more), f.least - more})
				f.check(t, value{digits + noughts(more-1), f.least - more})
				f.check(t, value{digits + noughts(more+1), f.least - more})
			}
		}
	})
}

// P16.1: exponents far beyond all formats and all ints, with few digits and with thousands of them.
func TestP16_1_FarExponents(t *testing.T) {
	each(t, func(t *testing.T, f format) {
		for _, direction := range directions {
			for _, sign := range signs {
				over := f.tooGreat(direction, sign)
				under := finite(sign, "", f.least)
				if outward(direction, sign) {
					under = finite(sign, "1", f.least)
				}
				for _, digits := range []string{"1", "9", "0.0001", "123456789.5", nines(3960), "1" + noughts(3900)} {
					for _, exp := range []string{"10300", "12001", "65536", "999999", "2147483648", "4294967297", "999999999", "1000000000", "1000000001", "9223372036854775807", "9223372036854775808", "18446744073709551617"} {
						reads(t, f.number, direction, minus(sign)+digits+"e"+exp, f.pattern(over.d), over.flags)
						reads(t, f.number, direction, minus(sign)+digits+"e-"+exp, f.pattern(under), underflow)
					}
				}
				reads(t, f.number, direction, minus(sign)+"1e"+nines(3990), f.pattern(over.d), overflow)
				reads(t, f.number, direction, minus(sign)+"1e-"+nines(3990), f.pattern(under), underflow)
			}
		}
	})
}

// P16.1: thousands of digits, and an exponent that brings them back to where the format's numbers lie.
func TestP16_1_ManyDigits(t *testing.T) {
	each(t, func(t *testing.T, f format) {
		for seed, count := range []int{800, 801, 1500, 3000, 3980} {
			for _, first := range []int{f.least - 2, f.least - 1, f.least, f.least + 1, f.least + f.precision - 2, f.least + f.precision - 1, -1, 0, 1, f.most + f.precision - 2, f.most + f.precision - 1, f.most + f.precision} {
				f.check(t, value{drawn(count, uint64(seed)), first - count + 1})
			}
			for _, exp := range []int{f.least, 0, f.most} {
				reads(t, f.number, api.Up, "."+noughts(count-1)+"1e"+strconv.Itoa(exp+count), f.pattern(finite(false, "1", exp)), 0)
			}
		}
	})
}

// P16.1: drawn digits of all sizes at all kinds of places, some in all ways of writing them.
func TestP16_1_Drawn(t *testing.T) {
	each(t, func(t *testing.T, f format) {
		span := uint64(f.most - f.least + 2*f.precision + 20)
		for seed := range uint64(4000) {
			count := int(scattered(seed) % uint64(2*f.precision+4))
			exp := f.least - f.precision - 10 + int(scattered(seed+10000)%span)
			if seed%3 == 0 {
				exp = f.exps()[seed%9] - int(scattered(seed+20000)%uint64(f.precision))
			}
			v := value{drawn(count, seed), exp}
			if seed%2 == 0 {
				v.digits = strings.TrimLeft(v.digits+noughts(int(scattered(seed+30000)%9)), "0")
			}
			if seed%20 == 0 {
				f.check(t, v, v.ways()...)
			} else {
				f.check(t, v)
			}
		}
	})
}

// P16.1: all numbers of three digits, with exponents about both bounds and about 0.
func TestP16_1_ThreeDigits(t *testing.T) {
	each(t, func(t *testing.T, f format) {
		for n := range 1000 {
			for _, exp := range []int{f.least - 2, f.least - 1, f.least, 0, f.most, f.most + f.precision - 3, f.most + f.precision - 2} {
				digits := ""
				if n > 0 {
					digits = strconv.Itoa(n)
				}
				f.check(t, value{digits, exp})
			}
		}
	})
}

// P16.1: infinities, in all their spellings.
func TestP16_1_Infinities(t *testing.T) {
	for _, f := range formats {
		for _, sign := range signs {
			want := f.pattern(api.Datum{Class: api.Infinite, Sign: sign})
			for _, direction := range directions {
				for _, s := range []string{"inf", "infinity", "INF", "Inf", "Infinity", "iNfInItY", "INFINITY"} {
					reads(t, f.number, direction, minus(sign)+s, want, 0)
				}
				makes(t, f.number, direction, grammar.Parts{Class: api.Infinite, Sign: sign}, want, 0)
			}
			writes(t, f.number, want, minus(sign)+"inf")
		}
	}
}

// nans fails unless NaNs with these digits, or none, have the payload, quiet and signalling, in all directions and with both signs.
func (f format) nans(t *testing.T, digits, payload string) {
	t.Helper()
	brackets := ""
	if digits != "" {
		brackets = "(" + digits + ")"
	}
	for _, sign := range signs {
		for _, signal := range signs {
			want := f.pattern(api.Datum{Class: api.NaN, Sign: sign, Signal: signal, Coef: number(payload)})
			spellings := []string{"nan", "NaN", "NAN"}
			if signal {
				spellings = []string{"snan", "sNaN", "SNAN", "SnAn"}
			}
			for _, direction := range directions {
				for _, s := range spellings {
					reads(t, f.number, direction, minus(sign)+s+brackets, want, 0)
				}
				bare := strings.TrimLeft(digits, "0")
				makes(t, f.number, direction, grammar.Parts{Class: api.NaN, Sign: sign, Signal: signal, Digits: bare}, want, 0)
			}
		}
	}
}

// P16.1: NaNs, with payloads up to the greatest that the format has, and with greater ones, which become 0; one that signals goes on signalling with the payload 0.
func TestP16_1_NaNs(t *testing.T) {
	for _, f := range formats {
		most := f.precision - 1
		for _, digits := range []string{"", "0", "000", noughts(3990)} {
			f.nans(t, digits, "")
		}
		for count := 1; count <= most; count++ {
			for _, digits := range []string{nines(count), "1" + noughts(count-1), drawn(count, uint64(count))} {
				f.nans(t, digits, digits)
				f.nans(t, noughts(50)+digits, digits)
			}
		}
		f.nans(t, noughts(3900)+nines(most), nines(most))
		beyond := []string{"1" + noughts(most), "1" + noughts(most-1) + "1", nines(most + 1), drawn(most+1, 5), nines(most + 2), nines(100), "1" + noughts(3000), nines(3990)}
		for _, n := range []int{20, 50, 64, 110, 128, 256, 320} {
			// Those whose lowest bits would be a payload.
			power := new(big.Int).Lsh(big.NewInt(1), uint(n))
			if text := power.Add(power, big.NewInt(5)).String(); len(text) > most {
				beyond = append(beyond, text)
			}
		}
		for _, digits := range beyond {
			f.nans(t, digits, "")
			f.nans(t, "00"+digits, "")
		}
	}
}

// P16.1: Make of parts is Read of the text that Join makes of them.
func TestP16_1_MakeIsRead(t *testing.T) {
	for _, f := range formats {
		taken := 0
		for _, class := range []int{api.Finite, api.Infinite, api.NaN} {
			for _, digits := range []string{"", "1", "7", "10", "999999", "1000000", "99999995", drawn(16, 1), drawn(34, 2), drawn(40, 3)} {
				for _, exp := range []int{0, 1, -1, 5, -30, 90, 97, -102, 400, -400, 6145, -6177, billion, -billion} {
					for i := range 4 {
						p := grammar.Parts{Class: class, Sign: i&1 != 0, Signal: i&2 != 0, Digits: digits, Exp: exp}
						s, errno := grammar.Join(p)
						for _, direction := range directions {
							if errno != api.OK {
								refusedParts(t, api.ErrForm, f.number, direction, p)
								continue
							}
							b, flags, _ := dectext.Read(f.number, direction, s)
							makes(t, f.number, direction, p, b, flags)
							taken++
						}
					}
				}
			}
		}
		if taken < 1000 {
			t.Errorf("format %d: only %d", f.number, taken)
		}
	}
}

// P5: what is read into a plain format means the same as what is read into the dense one of its width.
func TestTwins(t *testing.T) {
	for _, f := range formats[:3] {
		for seed := range uint64(500) {
			s := fmt.Sprintf("%se%d", drawn(int(seed%50)+1, seed), f.least-20+int(scattered(seed)%uint64(f.most-f.least+40)))
			for _, direction := range directions {
				plain, flags, errno := dectext.Read(f.number, direction, s)
				dense, denseFlags, denseErrno := dectext.Read(f.number+3, direction, s)
				text, _ := dectext.Write(f.number, plain)
				denseText, _ := dectext.Write(f.number+3, dense)
				if text != denseText || flags != denseFlags || errno != api.OK || denseErrno != api.OK {
					t.Errorf("%s, direction %d: %s %d, %s %d", s, direction, text, flags, denseText, denseFlags)
				}
			}
		}
	}
}
