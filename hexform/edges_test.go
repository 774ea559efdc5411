package hexform_test

import (
	"fmt"
	"math"
	"math/big"
	"strings"
	"sync"
	"testing"

	"caliper/api"
	"caliper/grammar"
	"caliper/hexform"
	"caliper/readbin"
)

// otherNumbers are those of formats that aren't binary, and numbers of none.
var otherNumbers = []int{7, 8, 9, 10, 11, 12, 0, 13, -1, -3, 257, 1<<32 + 3, math.MinInt, math.MinInt + 4, math.MaxInt}

// otherDirections are numbers of no direction.
var otherDirections = []int{-1, 5, 6, 8, 256, 1 << 32, 1<<32 + 2, math.MinInt, math.MaxInt}

// unwritten fails unless Write answers ErrArg and nothing else.
func unwritten(t *testing.T, number int, b api.Bits) {
	t.Helper()
	if text, errno := hexform.Write(number, b); text != "" || errno != api.ErrArg {
		t.Errorf("Write(%d, %x): %s %d, not ErrArg", number, b, text, errno)
	}
}

// P11.1, R5, R6: a format that is none or isn't binary, a pattern that doesn't fit, or both, are ErrArg.
func TestWriteArguments(t *testing.T) {
	full := api.Bits{math.MaxUint64, math.MaxUint64, math.MaxUint64, math.MaxUint64}
	for _, number := range otherNumbers {
		for _, b := range []api.Bits{{}, {1}, {0x3c00}, {0x7c00}, {0x7e00}, {1 << 32}, {0, 1}, {0, 0, 1}, {0, 0, 0, 1 << 63}, full} {
			unwritten(t, number, b)
		}
	}
	for _, f := range formats {
		for width := f.width; width < 256; width++ {
			for _, low := range []*big.Int{new(big.Int), big.NewInt(1), f.power(0), f.infinity(), plus(f.infinity(), 1), two(f.width - 1)} {
				b := f.signed(low, false)
				b[width/64] |= 1 << (width % 64)
				unwritten(t, f.number, b)
			}
		}
		if f.width < 256 {
			unwritten(t, f.number, full)
		}
	}
}

// texts are of every kind: finite ones, others, none, and too long ones.
func texts() []string {
	long := api.MostText + 1
	return []string{"0x1p0", "-0x.1p-5", "0x0p0", "0x1p999999", "inf", "-nan(5)", "snan", "", "x", "1.5", "0x1", "nan()", "0x1p" + strings.Repeat("0", long-4), strings.Repeat("x", long)}
}

// P11.1, R5, R6: a format that is none or isn't binary, a direction that is none, or both, are ErrArg, ahead of what is wrong with a text.
func TestReadArguments(t *testing.T) {
	for _, s := range texts() {
		for _, number := range otherNumbers {
			for _, direction := range append(otherDirections, directions...) {
				refused(t, api.ErrArg, number, direction, s)
			}
		}
		for _, f := range formats {
			for _, direction := range otherDirections {
				refused(t, api.ErrArg, f.number, direction, s)
			}
		}
	}
}

// P11.1: texts that have no number, decimal ones among them.
func TestP11_1_NoTexts(t *testing.T) {
	for _, s := range []string{
		"", " ", "+", "-", "0", "1", "1.5", "-0.1", "1e5", ".5", "5.", "0e0", "1p5", "0p0", "1.8p0", ".8p1", "fp0", "e5",
		"x", "0x", "0X", "x1p0", "X1p0", "0xp", "0xp0", "0xP0", "0x.", "0x.p", "0x.p0", "+0x.p0", "-0xp+0", "0x+1p0", "0x-1p0", "0 x1p0",
		"0x1", "0x1.", "0x.1", "0x1.8", "-0xff", "0x0", "0x0.0", "0x1e5", "0x1e+5", "0x1.8e5",
		"0x1p", "0x1P", "0x1p+", "0x1p-", "0x1p++1", "0x1p+-1", "0x1p--1", "0x1p 1", "0x1 p1", "0x1p1 ", " 0x1p1", "0x 1p1",
		"0x1.p", "0x1.8.p0", "0x1..8p0", "0x.1.p0", "0x1p.", "0x1p1.", "0x1p1.0", "0x1p.5", "0x1.p.5",
		"0x1.8p0x", "0x1p0x1", "0x1p0p0", "0x1pp0", "0x1p1p", "0x1p1e1", "0x1p5f", "0x1pf", "0x1pa", "0x1p1a", "0x1p0A",
		"0x1g.p0", "0xgp0", "0xGp0", "0x1.gp0", "0x1hp0", "0x/p0", "0x:p0", "0x@p0", "0x`p0", "0x1q0", "0x1o0", "0x1:0", "0x1p/", "0x1p:",
		"00x1p0", "1x1p0", "0y1p0", "0b1p0", "0o1p0", "ox1p0", "Ox1p0", "0xx1p0", "0x0x1p0", "00X1p0",
		"--0x1p0", "++0x1p0", "+-0x1p0", "-+0x1p0", "0x1p0-", "0x1p0+", "- 0x1p0", "\u22120x1p0",
		"0x1_0p0", "0x_1p0", "0x1p1_0", "0x1,8p0", "0x1p0\x00", "\x000x1p0", "0x1p0\n", "\t0x1p0", "0x\u0661p0", "0x1p\u0661", "0x\uff11p0", "0x1\u00b7p0", "0x1p\xff", "0x\xffp0",
		"in", "infi", "infinit", "infinityy", "sinf", "inf(1)", "infp0", "0xinf", "na", "nan(", "nan()", "nan(-1)", "nan(1", "nan(1))", "nan(f)", "nan(0x1)", "nan 1", "snan(1.0)", "ssnan", "0xnan", "nanp0", "\u017fnan", "\u0130nf", "- inf", "--nan",
	} {
		if _, ok := parsed(s); ok || otherText.MatchString(s) {
			t.Fatalf("%s is a text", brief(s))
		}
		for _, f := range formats {
			for _, direction := range directions {
				refused(t, api.ErrForm, f.number, direction, s)
			}
		}
	}
}

// judged fails unless Read, to Half and in all directions, answers a text as the oracle does, be it one or not, and says whether it is one.
func judged(t *testing.T, s string) bool {
	t.Helper()
	f := formats[0]
	n, ok := parsed(s)
	for _, direction := range directions {
		switch {
		case len(s) > api.MostText:
			refused(t, api.ErrLong, f.number, direction, s)
		case ok:
			want, flags := f.answer(n, direction)
			reads(t, f.number, direction, s, want, flags)
		case otherText.MatchString(s):
			p, _ := grammar.Cut(s)
			want, flags, _ := readbin.Make(f.number, direction, p)
			reads(t, f.number, direction, s, want, flags)
		default:
			refused(t, api.ErrForm, f.number, direction, s)
		}
	}
	return ok
}

// P11.1: every byte at every place of some texts, in the place of another, and between two.
func TestP11_1_OtherBytes(t *testing.T) {
	taken := 0
	for _, s := range []string{"-0x1a.8Fp+12", "0X.5P-3", "+0xBp7", "-infinity", "snan(12)"} {
		for at := range len(s) + 1 {
			for c := range 256 {
				texts := []string{s[:at] + string([]byte{byte(c)}) + s[at:]}
				if at < len(s) {
					texts = append(texts, s[:at]+string([]byte{byte(c)})+s[at+1:])
				}
				for _, text := range texts {
					if judged(t, text) {
						taken++
					}
				}
			}
		}
		for at := range len(s) {
			judged(t, s[:at]+s[at+1:])
			judged(t, s[:at])
			judged(t, s[at:])
		}
	}
	if taken < 500 {
		t.Errorf("only %d are texts", taken)
	}
}

// P11.1: all short texts of some bytes.
func TestP11_1_AllShortTexts(t *testing.T) {
	const letters = "0x1.p-+aE"
	taken := 0
	var grow func(s string, more int)
	grow = func(s string, more int) {
		if judged(t, s) {
			taken++
		}
		if more == 0 {
			return
		}
		for i := range len(letters) {
			grow(s+letters[i:i+1], more-1)
		}
	}
	grow("", 4)
	for _, front := range []string{"0x", "-0X", "0x1", "0x.", "0x1.a", "0x1p", "0x.1p-"} {
		grow(front, 4)
	}
	if taken < 500 {
		t.Errorf("only %d are texts", taken)
	}
}

// P11.1: texts of just MostText bytes, of whatever kind, are taken, or are no texts; those with one more are ErrLong.
func TestP11_1_LongestTexts(t *testing.T) {
	filled := func(front, fill, end string, size int) string {
		return front + strings.Repeat(fill, size-len(front)-len(end)) + end
	}
	for _, c := range []struct{ front, fill, end string }{
		{"0x", "0", "1p0"}, {"0x1.", "0", "p0"}, {"-0x1", "0", "p-15960"}, {"0x.", "0", "1p+15970"}, {"0x", "f", "p-15970"},
		{"+0X.", "F", "P0"}, {"0x1p", "0", "5"}, {"0x1p-", "0", "3"}, {"0x1p", "9", ""}, {"-0x1p-", "9", ""}, {"0x", "0", "p0"}, {"-0x0p", "7", ""},
		{"0x1.", "0", "1p0"}, {"0x1.002", "0", "1p0"}, {"0x1.001", "f", "p0"}, {"0xffe", "f", "p-15970"}, {"0xfff", "0", "p-15976"},
		{"nan(", "0", "5)"}, {"-snan(", "9", ")"},
		{"0x", "1", ""}, {"", "x", ""}, {"", "0", ""}, {"", "p", ""}, {"0x1", "p", ""}, {"0x1p", "0", "x"}, {"0x.", ".", ""}, {"inf", " ", ""}, {"", "\xff", ""}, {"p", "1", ""}, {"+p", "1", ""},
	} {
		for _, size := range []int{api.MostText - 1, api.MostText, api.MostText + 1, api.MostText + 2, 2 * api.MostText} {
			s := filled(c.front, c.fill, c.end, size)
			judged(t, s)
			for _, f := range formats {
				if size > api.MostText {
					refused(t, api.ErrLong, f.number, api.Up, s)
				} else if n, ok := parsed(s); ok {
					want, flags := f.answer(n, api.Up)
					reads(t, f.number, api.Up, s, want, flags)
				}
			}
		}
	}
	refused(t, api.ErrLong, api.Double, api.Even, strings.Repeat("1", 1<<20))
}

// P11.1: of texts with thousands of digits each digit counts.
func TestP11_1_ThousandsOfDigits(t *testing.T) {
	for _, f := range formats {
		one := f.signed(f.power(0), false)
		next := f.signed(plus(f.power(0), 1), false)
		for _, noughts := range []int{0, 1, 15, 16, 17, 63, 64, 100, 800, 3199, 3900} {
			fill := strings.Repeat("0", noughts)
			tail := strings.Repeat("0", (f.precision-1)/4+1)
			reads(t, f.number, api.Up, "0x1."+tail+fill+"1p0", next, inexact)
			reads(t, f.number, api.Even, "0x1."+tail+fill+"1p0", one, inexact)
			back(t, f.number, "0x1."+tail+fill+"0p0", one)
			back(t, f.number, "0x1"+fill+fmt.Sprintf("p-%d", 4*noughts), one)
			back(t, f.number, "0x."+fill+fmt.Sprintf("1p%d", 4*noughts+4), one)
			back(t, f.number, "0x"+fill+"1.p0", one)
			back(t, f.number, "0x1p"+fill+"0", one)
		}
	}
}

// P11.1: exponents about 10^9, far beyond it, and beyond what a word holds, on both sides.
func TestP11_1_FarExponents(t *testing.T) {
	for _, f := range formats {
		for _, direction := range directions {
			for _, sign := range bothSigns {
				over, under := plus(f.infinity(), -1), big.NewInt(0)
				if direction == api.Even || direction == api.Away || outward(direction, sign) {
					over = f.infinity()
				}
				if outward(direction, sign) {
					under = big.NewInt(1)
				}
				for _, digits := range []string{"1", "f", "0.0001", "1234567.89abcdef", strings.Repeat("f", 1000), "." + strings.Repeat("0", 1000) + "1"} {
					for _, exp := range []string{"40000", "65536", "999999", "2147483647", "2147483648", "4294967296", "4294967297", "999999999", "1000000000", "1000000001", "9223372036854775807", "9223372036854775808", "18446744073709551616", "18446744073709551617", "0000000000000000000000999999", strings.Repeat("9", 2500)} {
						reads(t, f.number, direction, minus(sign)+"0x"+digits+"p"+exp, f.signed(over, sign), overflow)
						reads(t, f.number, direction, minus(sign)+"0x"+digits+"p+"+exp, f.signed(over, sign), overflow)
						reads(t, f.number, direction, minus(sign)+"0x"+digits+"p-"+exp, f.signed(under, sign), underflow)
					}
				}
			}
		}
	}
}

// P11.1: every exponent near a format's bounds, with digits of several sizes.
func TestP11_1_NearBounds(t *testing.T) {
	for _, f := range formats {
		t.Run(fmt.Sprint(f.number), func(t *testing.T) {
			t.Parallel()
			for _, bits := range []int{1, 2, 5, f.precision, f.precision + 1, 300, 3000} {
				for _, bound := range []int{f.least, f.least + f.precision, 0, f.most + f.precision} {
					for step := -4; step < 5; step++ {
						f.check(t, two(bits-1), bound+step-bits)
						f.check(t, plus(two(bits), -1), bound+step-bits)
						f.check(t, plus(two(bits-1), 1), bound+step-bits)
					}
				}
			}
		})
	}
}

// P11.1: noughts with any exponent and either sign, without flags.
func TestP11_1_ReadNoughts(t *testing.T) {
	for _, f := range formats {
		for _, s := range []string{"0x0p0", "0X0P0", "0x0.p0", "0x.0p0", "0x00000p0", "0x0.000p-9", "0x0p+5", "0x0p-5", "0x0p40000", "0x0p-40000", "0x0p1000000000", "0x0p-1000000000", "0x.0p2000000000", "0x0.0p-99999999999999999999", "0x0p" + strings.Repeat("9", 3990), "0x0p-" + strings.Repeat("9", 3990), "0x" + strings.Repeat("0", 3990) + "p1", "0x." + strings.Repeat("0", 3990) + "p-1"} {
			back(t, f.number, s, api.Bits{})
			back(t, f.number, "+"+s, api.Bits{})
			back(t, f.number, "-"+s, f.signed(new(big.Int), true))
		}
	}
}

// R2: the same arguments have the same answers, whatever is asked in between or at the same time.
func TestTogether(t *testing.T) {
	var workers sync.WaitGroup
	for _, f := range formats {
		for _, pattern := range f.edges()[:8] {
			workers.Go(func() {
				for range 3 {
					f.goes(t, pattern)
					refused(t, api.ErrForm, f.number, api.Even, "0x1")
					f.beside(t, pattern, 3)
				}
			})
		}
	}
	workers.Wait()
}

// R1: no call panics, whatever it is given; beside an error there is nothing, and what is written is read back.
func FuzzWrite(f *testing.F) {
	for i := range 14 {
		f.Add(i, uint64(1)<<(4*i), uint64(0), uint64(i%2), uint64(0))
		f.Add(i, scattered(uint64(i)), scattered(99), scattered(98), scattered(97))
	}
	f.Fuzz(func(t *testing.T, number int, a, b, c, d uint64) {
		pattern := api.Bits{a, b, c, d}
		if number >= 1 && number <= 6 {
			// Most patterns would be too wide.
			pattern = narrowed(pattern, formats[number-1].width)
		}
		text, errno := hexform.Write(number, pattern)
		if number < 1 || number > 6 {
			unwritten(t, number, pattern)
			return
		}
		if errno != api.OK {
			t.Errorf("Write(%d, %x): %d", number, pattern, errno)
		}
		back(t, number, text, pattern)
	})
}

// narrowed is the lowest bits of a pattern.
func narrowed(b api.Bits, width int) api.Bits {
	for i := range b {
		if beyond := 64*(i+1) - width; beyond >= 64 {
			b[i] = 0
		} else if beyond > 0 {
			b[i] &= math.MaxUint64 >> beyond
		}
	}
	return b
}

// R1, P1: whatever text, format and direction, Read ends, and answers as the oracle does.
func FuzzRead(f *testing.F) {
	for i, s := range []string{"", "0x1p0", "-0x.8p-1", "0X1.FFFFFFp+127", "0x1p-150", "0x1", "nan(5)", "-inf", "1.5", "0x1.8p99999999999", "0x0p-7"} {
		f.Add(i%14, i%6, s)
	}
	f.Fuzz(func(t *testing.T, number, direction int, s string) {
		if number < api.Half || number > api.Octo || direction < api.Even || direction > api.Down {
			refused(t, api.ErrArg, number, direction, s)
			return
		}
		if n, ok := parsed(s); ok && len(s) <= api.MostText {
			want, flags := formats[number-1].answer(n, direction)
			reads(t, number, direction, s, want, flags)
			return
		}
		judged(t, s)
	})
}
