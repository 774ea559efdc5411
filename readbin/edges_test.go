package readbin_test

import (
	"fmt"
	"math"
	"math/big"
	"strconv"
	"strings"
	"testing"

	"caliper/api"
	"caliper/grammar"
	"caliper/readbin"
)

// others are numbers of formats that aren't binary, and numbers of none.
var others = []int{7, 8, 9, 10, 11, 12, 0, 13, -1, -3, 257, 1<<32 + 3, math.MinInt, math.MinInt + 4, math.MaxInt}

// nowhere are numbers of no direction.
var nowhere = []int{-1, 5, 6, 256, 1 << 32, 1<<32 + 2, math.MinInt, math.MaxInt}

// refused fails unless Read answers the error and nothing else.
func refused(t *testing.T, want api.Errno, number, direction int, s string) {
	t.Helper()
	b, flags, errno := readbin.Read(number, direction, s)
	if b != (api.Bits{}) || flags != 0 || errno != want {
		t.Errorf("Read(%d, %d, %s): %x %d %d, not the error %d", number, direction, brief(s), b, flags, errno, want)
	}
}

// refusedParts fails unless Make answers the error and nothing else.
func refusedParts(t *testing.T, want api.Errno, number, direction int, p grammar.Parts) {
	t.Helper()
	b, flags, errno := readbin.Make(number, direction, p)
	if b != (api.Bits{}) || flags != 0 || errno != want {
		t.Errorf("Make(%d, %d, %d %v %v %s %d): %x %d %d, not the error %d", number, direction, p.Class, p.Sign, p.Signal, brief(p.Digits), p.Exp, b, flags, errno, want)
	}
}

// texts are of every kind: finite ones, others, none, and too long ones.
func texts() []string {
	return []string{"1", "-0.1", "0", "1e999", "1e-9999", "inf", "-nan(5)", "snan", "", "x", "1e", "nan()", strings.Repeat("1", api.MostText+1), strings.Repeat("x", api.MostText+1)}
}

// manyParts are of every kind: those that Join takes, and others.
func manyParts() []grammar.Parts {
	return []grammar.Parts{
		{Class: api.Finite, Digits: "15", Exp: -1},
		{Class: api.Finite, Sign: true},
		{Class: api.Infinite},
		{Class: api.NaN, Digits: "5"},
		{Class: api.NaN, Signal: true},
		{},
		{Class: 9, Digits: "x"},
		{Class: api.Finite, Digits: "01"},
		{Class: api.Finite, Digits: "1", Exp: billion + 1},
		{Class: api.Infinite, Signal: true},
		{Class: api.Finite, Digits: strings.Repeat("1", api.MostText+1)},
	}
}

// P8.1, R5, R6: a format that is none or isn't binary, a direction that is none, or both, are ErrArg, ahead of what is wrong with a text or its parts.
func TestArguments(t *testing.T) {
	for _, number := range others {
		for _, direction := range append(nowhere, directions...) {
			for _, s := range texts() {
				refused(t, api.ErrArg, number, direction, s)
			}
			for _, p := range manyParts() {
				refusedParts(t, api.ErrArg, number, direction, p)
			}
		}
	}
	for _, f := range formats {
		for _, direction := range nowhere {
			for _, s := range texts() {
				refused(t, api.ErrArg, f.number, direction, s)
			}
			for _, p := range manyParts() {
				refusedParts(t, api.ErrArg, f.number, direction, p)
			}
		}
	}
}

// P8.1, R5: Cut's errors.
func TestP8_1_TextErrors(t *testing.T) {
	long := api.MostText + 1
	for _, f := range formats {
		for _, direction := range directions {
			for _, s := range []string{"", " ", ".", "+", "-", "-.", "1e", "1e+", "e5", ".e5", "1.5.2", "1 ", " 1", "--1", "+-1", "1e5.0", "1e5e5", "x", "0x1p3", "in", "infinit", "infinityy", "-i", "na", "nan(", "nan()", "nan(-1)", "nan(1", "nan(1))", "nan 1", "snan(1.0)", "ssnan", "sinf", "inf(1)", "1_000", "1,5", "\u0661", "1\x00", "\u017fnan", strings.Repeat("x", api.MostText), strings.Repeat("1", api.MostText-1) + "e"} {
				refused(t, api.ErrForm, f.number, direction, s)
			}
			for _, s := range []string{strings.Repeat("1", long), strings.Repeat("0", long), strings.Repeat("x", long), "-" + strings.Repeat("9", long-1), "nan(" + strings.Repeat("1", long-5) + ")", "1e" + strings.Repeat("0", long-2), strings.Repeat("1", 1<<20)} {
				refused(t, api.ErrLong, f.number, direction, s)
			}
		}
	}
}

// wrongParts are those that Join doesn't take.
func wrongParts() []grammar.Parts {
	var list []grammar.Parts
	for _, class := range []int{0, -1, 4, 5, 257, 1 << 32, 1<<32 + 1, math.MinInt, math.MaxInt} {
		for _, digits := range []string{"", "7", "150", "inf", "nan"} {
			list = append(list, grammar.Parts{Class: class, Digits: digits}, grammar.Parts{Class: class, Digits: digits, Exp: 2}, grammar.Parts{Class: class, Signal: true, Digits: digits})
		}
	}
	list = append(list,
		grammar.Parts{Class: api.Finite, Signal: true},
		grammar.Parts{Class: api.Finite, Signal: true, Digits: "7", Exp: 1},
		grammar.Parts{Class: api.Infinite, Signal: true},
		grammar.Parts{Class: api.Infinite, Digits: "7"},
		grammar.Parts{Class: api.Infinite, Exp: 1},
		grammar.Parts{Class: api.NaN, Exp: 1},
		grammar.Parts{Class: api.NaN, Signal: true, Digits: "7", Exp: -1},
	)
	for _, exp := range []int{billion + 1, -billion - 1, 1 << 31, -1 << 31, 1 << 32, 1 << 40, math.MaxInt, math.MinInt} {
		list = append(list, grammar.Parts{Class: api.Finite, Exp: exp}, grammar.Parts{Class: api.Finite, Digits: "7", Exp: exp})
	}
	for _, digits := range []string{"0", "00", "01", "007", " ", "1 ", " 1", "a", "1a", "+1", "-1", "+", "-", ".", "1.5", "1e5", "e5", "inf", "nan", "(1)", "1)", "\x00", "1\xff", "\u0661", "1_0", "0x1"} {
		list = append(list, grammar.Parts{Class: api.Finite, Digits: digits}, grammar.Parts{Class: api.Finite, Digits: digits, Exp: 5}, grammar.Parts{Class: api.NaN, Digits: digits}, grammar.Parts{Class: api.NaN, Signal: true, Digits: digits})
	}
	most := strings.Repeat("7", api.MostText)
	return append(list,
		grammar.Parts{Class: api.Finite, Digits: most + "7"},
		grammar.Parts{Class: api.Finite, Digits: most, Exp: 1},
		grammar.Parts{Class: api.Finite, Digits: most[:api.MostText-2], Exp: -1},
		grammar.Parts{Class: api.Finite, Digits: most[:api.MostText-10], Exp: billion},
		grammar.Parts{Class: api.NaN, Digits: most[:api.MostText-4]},
		grammar.Parts{Class: api.NaN, Signal: true, Digits: most[:api.MostText-5]},
		grammar.Parts{Class: api.Finite, Digits: strings.Repeat("7", 1<<20)},
		grammar.Parts{Class: api.NaN, Digits: strings.Repeat("7", 1<<20)},
	)
}

// P8.1, R5: parts that Join doesn't take.
func TestP8_1_PartsErrors(t *testing.T) {
	for _, p := range wrongParts() {
		for _, f := range formats {
			for _, direction := range directions {
				refusedParts(t, api.ErrForm, f.number, direction, p)
				p.Sign = !p.Sign
				refusedParts(t, api.ErrForm, f.number, direction, p)
			}
		}
	}
}

// P8.1: texts of just MostText bytes. A point takes less room than the exponent that stands for it: Join takes no parts whose own text is longer, so that such a text is ErrForm.
func TestP8_1_LongestTexts(t *testing.T) {
	nines := strings.Repeat("9", api.MostText)
	for _, f := range formats {
		one := f.signed(f.pattern(two(f.precision-1), 1-f.precision), false)
		for _, direction := range directions {
			want, wantFlags := f.rounded(f.placed(decimal{plus(ten(api.MostText), -1), 0}), direction, false)
			reads(t, f.number, direction, nines, want, wantFlags)
		}
		f.check(t, decimal{plus(ten(api.MostText-1), -1), 0})
		f.check(t, decimal{plus(ten(api.MostText-7), -1), -3994})
		reads(t, f.number, api.Even, "."+nines[:api.MostText-6], one, inexact)
		reads(t, f.number, api.Up, "0000."+nines[:api.MostText-6], one, inexact)
		refused(t, api.ErrForm, f.number, api.Even, "."+nines[:api.MostText-5])
		refused(t, api.ErrForm, f.number, api.Even, "-."+nines[:api.MostText-6])
		refused(t, api.ErrForm, f.number, api.Even, "."+nines[:api.MostText-1])
		refused(t, api.ErrForm, f.number, api.Even, "9."+nines[:api.MostText-2])
		// Noughts ahead aren't among the digits.
		reads(t, f.number, api.Even, strings.Repeat("0", api.MostText-1)+"1", one, 0)
		reads(t, f.number, api.Even, "0."+strings.Repeat("0", api.MostText-8)+"1e3993", one, 0)
		reads(t, f.number, api.Even, "1e"+strings.Repeat("0", api.MostText-2), one, 0)
	}
}

// P8.1: exponents far beyond all formats, with few digits and with thousands of them.
func TestP8_1_FarExponents(t *testing.T) {
	long := strings.Repeat("9", 3970)
	for _, f := range formats {
		infinity, largest := f.infinity(), plus(f.infinity(), -1)
		for _, direction := range directions {
			for _, sign := range signs {
				over, under := largest, big.NewInt(0)
				if direction == api.Even || direction == api.Away || outward(direction, sign) {
					over = infinity
				}
				if outward(direction, sign) {
					under = big.NewInt(1)
				}
				minus := ""
				if sign {
					minus = "-"
				}
				for _, digits := range []string{"1", "9", "0.0001", "123456789.5", long, "1" + strings.Repeat("0", 3900)} {
					for _, exp := range []string{"9100", "12001", "20000", "65536", "999999", "2147483648", "4294967297", "999999999", "1000000000", "1000000001", "9223372036854775808", "18446744073709551617"} {
						reads(t, f.number, direction, minus+digits+"e"+exp, f.signed(over, sign), overflow)
						reads(t, f.number, direction, minus+digits+"e-"+exp, f.signed(under, sign), underflow)
					}
				}
				reads(t, f.number, direction, minus+"1e"+strings.Repeat("9", 3990), f.signed(over, sign), overflow)
				reads(t, f.number, direction, minus+"1e-"+strings.Repeat("9", 3990), f.signed(under, sign), underflow)
			}
		}
	}
}

// P8.1: exponents about the bounds beyond which all is one, with digits of all sizes: none of them may be taken for farther away than it is.
func TestP8_1_BesideFarExponents(t *testing.T) {
	for _, f := range formats {
		t.Run(fmt.Sprint(f.number), func(t *testing.T) {
			t.Parallel()
			f.besideFar(t)
		})
	}
}

func (f format) besideFar(t *testing.T) {
	for _, size := range []int{1, 2, 20, 1000, 2500, 3980} {
		for _, place := range []int{-6001, -6000, -5999, -5010, -5005, -5004, -5003, -5000, -4966, -4965, -4932, -400, -324, -323, -46, -45, -41, -8, -7, 0, 4, 5, 6, 38, 39, 308, 309, 310, 4931, 4932, 4933, 4934, 5999, 6000, 6001} {
			f.check(t, decimal{number(size, uint64(size)), place - size})
			f.check(t, decimal{ten(size - 1), place - size})
		}
	}
}

// P8.1: thousands of digits and an exponent that brings them back.
func TestP8_1_BroughtBack(t *testing.T) {
	for _, f := range formats {
		one := f.pattern(two(f.precision-1), 1-f.precision)
		for _, noughts := range []int{1, 19, 300, 1000, 3900} {
			for _, direction := range directions {
				for _, sign := range signs {
					minus := ""
					if sign {
						minus = "-"
					}
					n := strconv.Itoa(noughts)
					reads(t, f.number, direction, minus+"1"+strings.Repeat("0", noughts)+"e-"+n, f.signed(one, sign), 0)
					reads(t, f.number, direction, minus+"."+strings.Repeat("0", noughts-1)+"1e"+n, f.signed(one, sign), 0)
				}
			}
		}
	}
}

// P8.1: noughts of both signs with exponents of all sizes.
func TestP8_1_Noughts(t *testing.T) {
	for _, f := range formats {
		for _, direction := range directions {
			for _, s := range []string{"0", "0.", ".0", "00000", "0.000", "0e0", "0E+5", "0e-5", "0.00e400", "0e-400", "0e6000", "0e-6000", "0e12001", "0e-12001", "0e99999", "0e-99999", "0e1000000000", "0e-1000000000", "0e2000000000", "0.0e-99999999999999999999", "0e" + strings.Repeat("9", 3990), strings.Repeat("0", api.MostText-1), "." + strings.Repeat("0", api.MostText-2)} {
				reads(t, f.number, direction, s, api.Bits{}, 0)
				reads(t, f.number, direction, "-"+s, f.signed(new(big.Int), true), 0)
			}
			for _, exp := range []int{0, 1, -1, 5000, -5000, 12001, -12001, billion, -billion} {
				for _, sign := range signs {
					b, flags, errno := readbin.Make(f.number, direction, grammar.Parts{Class: api.Finite, Sign: sign, Exp: exp})
					if b != f.signed(new(big.Int), sign) || flags != 0 || errno != api.OK {
						t.Errorf("format %d, direction %d, %v, 0e%d: %x %d %d", f.number, direction, sign, exp, b, flags, errno)
					}
				}
			}
		}
	}
}

// P8.1: infinities of both signs.
func TestP8_1_Infinities(t *testing.T) {
	for _, f := range formats {
		for _, direction := range directions {
			for _, s := range []string{"inf", "infinity", "INF", "Infinity", "iNfInItY"} {
				reads(t, f.number, direction, s, f.signed(f.infinity(), false), 0)
				reads(t, f.number, direction, "+"+s, f.signed(f.infinity(), false), 0)
				reads(t, f.number, direction, "-"+s, f.signed(f.infinity(), true), 0)
			}
		}
	}
	reads(t, api.Brain, api.Zero, "-inf", api.Bits{0xff80}, 0)
}

// readsNaN fails unless NaNs with these digits, or none, have the payload, in all directions and with both signs; of one that signals 0 is 1.
func readsNaN(t *testing.T, f format, digits string, payload *big.Int) {
	t.Helper()
	if digits != "" {
		digits = "(" + digits + ")"
	}
	quiet := new(big.Int).Add(f.infinity(), two(f.precision-2))
	quiet.Add(quiet, payload)
	if payload.Sign() == 0 {
		payload = big.NewInt(1)
	}
	signalling := new(big.Int).Add(f.infinity(), payload)
	for _, direction := range directions {
		for _, sign := range signs {
			minus := ""
			if sign {
				minus = "-"
			}
			reads(t, f.number, direction, minus+"nan"+digits, f.signed(quiet, sign), 0)
			reads(t, f.number, direction, minus+"NaN"+digits, f.signed(quiet, sign), 0)
			reads(t, f.number, direction, minus+"snan"+digits, f.signed(signalling, sign), 0)
			reads(t, f.number, direction, minus+"sNaN"+digits, f.signed(signalling, sign), 0)
		}
	}
}

// P8.1: NaNs, with payloads up to the greatest that fits, and with greater ones.
func TestP8_1_NaNs(t *testing.T) {
	for _, f := range formats {
		beyond := two(f.precision - 2)
		nought := new(big.Int)
		for _, digits := range []string{"", "0", "000", strings.Repeat("0", 3990)} {
			readsNaN(t, f, digits, nought)
		}
		for _, payload := range []*big.Int{big.NewInt(1), big.NewInt(5), big.NewInt(63), two(f.precision - 3), plus(beyond, -2), plus(beyond, -1)} {
			readsNaN(t, f, payload.String(), payload)
			readsNaN(t, f, strings.Repeat("0", 50)+payload.String(), payload)
		}
		for _, payload := range []*big.Int{beyond, plus(beyond, 1), two(f.precision - 1), two(f.precision), plus(two(f.precision), 1), two(f.width), two(256), plus(two(256), 5), two(320), ten(100), ten(3000), plus(ten(3993), -1)} {
			readsNaN(t, f, payload.String(), nought)
		}
	}
}

// P8.1: NaNs said without the oracle.
func TestP8_1_WrittenNaNs(t *testing.T) {
	for _, c := range []struct {
		number int
		s      string
		b      api.Bits
	}{
		{api.Half, "nan", api.Bits{0x7e00}},
		{api.Half, "-nan(511)", api.Bits{0xffff}},
		{api.Half, "nan(512)", api.Bits{0x7e00}},
		{api.Half, "snan", api.Bits{0x7c01}},
		{api.Half, "snan(511)", api.Bits{0x7dff}},
		{api.Half, "-snan(512)", api.Bits{0xfc01}},
		{api.Brain, "nan(63)", api.Bits{0x7fff}},
		{api.Brain, "nan(64)", api.Bits{0x7fc0}},
		{api.Single, "nan(4194303)", api.Bits{0x7fffffff}},
		{api.Single, "nan(4194304)", api.Bits{0x7fc00000}},
		{api.Single, "snan(4194303)", api.Bits{0x7fbfffff}},
		{api.Single, "snan(0)", api.Bits{0x7f800001}},
		{api.Double, "nan(2251799813685247)", api.Bits{0x7fffffffffffffff}},
		{api.Double, "-snan(2251799813685248)", api.Bits{0xfff0000000000001}},
		{api.Quad, "nan(18446744073709551616)", api.Bits{0, 0x7fff800000000001}},
		{api.Octo, "snan(340282366920938463463374607431768211457)", api.Bits{1, 0, 1, 0x7fff000000000000}},
	} {
		for _, direction := range directions {
			reads(t, c.number, direction, c.s, c.b, 0)
		}
	}
}

// R2: the same texts have the same answers, whatever was read in between.
func TestSameAnswers(t *testing.T) {
	for range 3 {
		reads(t, api.Single, api.Even, "0.1", api.Bits{0x3dcccccd}, inexact)
		refused(t, api.ErrForm, api.Single, api.Even, "0.1e")
		reads(t, api.Single, api.Down, "0.1", api.Bits{0x3dcccccc}, inexact)
		refused(t, api.ErrArg, api.Plain32, api.Even, "0.1")
		reads(t, api.Half, api.Even, "1e-999999999", api.Bits{}, underflow)
		reads(t, api.Half, api.Even, "snan", api.Bits{0x7c01}, 0)
	}
}

// R1, P1: whatever text, format and direction, Read ends, and answers what Make does of Cut's parts, or an error and nothing else.
func FuzzRead(f *testing.F) {
	for i, s := range []string{"", "0.1", "-1e400", "65520", "snan(07)", "-inf", "1e-5004", "1e", ".", "9007199254740993.0000000001"} {
		f.Add(i%14, i%6, s)
	}
	f.Fuzz(func(t *testing.T, number, direction int, s string) {
		b, flags, errno := readbin.Read(number, direction, s)
		p, wrong := grammar.Cut(s)
		switch {
		case number < api.Half || number > api.Octo || direction < api.Even || direction > api.Down:
			refused(t, api.ErrArg, number, direction, s)
		case wrong != api.OK:
			refused(t, wrong, number, direction, s)
		default:
			made, raised, e := readbin.Make(number, direction, p)
			if made != b || raised != flags || e != errno {
				t.Errorf("%d %d %s: %x %d %d, not %x %d %d", number, direction, brief(s), b, flags, errno, made, raised, e)
			}
		}
	})
}
