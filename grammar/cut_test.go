package grammar_test

import (
	"fmt"
	"strings"
	"testing"
	"unsafe"

	"caliper/api"
	"caliper/grammar"
)

const (
	billion = 1000000000
	most    = 4000
)

// noughts is so many noughts.
func noughts(n int) string { return strings.Repeat("0", n) }

// brief tells parts, of which the digits may be thousands.
func brief(p grammar.Parts) string {
	return fmt.Sprintf("{%d %t %t %.80q (%d of them) %d}", p.Class, p.Sign, p.Signal, p.Digits, len(p.Digits), p.Exp)
}

// is fails unless Cut answers these parts.
func is(t *testing.T, s string, want grammar.Parts) {
	t.Helper()
	if p, e := grammar.Cut(s); p != want || e != api.OK {
		t.Errorf("Cut(%.80q): %s, %d, not %s", s, brief(p), e, brief(want))
	}
}

// isNot fails unless Cut answers this error, and nothing beside it.
func isNot(t *testing.T, s string, want api.Errno) {
	t.Helper()
	if p, e := grammar.Cut(s); p != (grammar.Parts{}) || e != want {
		t.Errorf("Cut(%.80q): %s, %d, not %d", s, brief(p), e, want)
	}
}

// finite is the parts of a number without a sign.
func finite(digits string, exp int) grammar.Parts {
	return grammar.Parts{Class: api.Finite, Digits: digits, Exp: exp}
}

// P7.1: the chapter's examples.
func TestExamples(t *testing.T) {
	is(t, "-1.50e3", grammar.Parts{Class: 1, Sign: true, Digits: "150", Exp: 1})
	is(t, "0.00", grammar.Parts{Class: 1, Exp: -2})
	is(t, "sNaN(07)", grammar.Parts{Class: 3, Signal: true, Digits: "7"})
	for _, s := range []string{"", ".", "1e", "nan()"} {
		isNot(t, s, api.ErrForm)
	}
}

// P7.1: each form of the digits, with each form of an exponent, and with each sign ahead.
func TestForms(t *testing.T) {
	mantissas := []struct {
		text, digits string
		behind       int
	}{
		{"7", "7", 0}, {"0", "", 0}, {"000", "", 0}, {"007", "7", 0}, {"700", "700", 0}, {"1234567890", "1234567890", 0},
		{"7.", "7", 0}, {"0.", "", 0}, {"00.", "", 0}, {"070.", "70", 0},
		{"7.8", "78", 1}, {"7.0", "70", 1}, {"0.0", "", 1}, {"0.8", "8", 1}, {"0.080", "80", 3}, {"00.000", "", 3}, {"10.01", "1001", 2}, {"98765.43210", "9876543210", 5},
		{".7", "7", 1}, {".0", "", 1}, {".000", "", 3}, {".0070", "70", 4},
	}
	exponents := []struct {
		text string
		exp  int
	}{
		{"", 0},
		{"e0", 0}, {"e5", 5}, {"e05", 5}, {"e000", 0}, {"e0050", 50}, {"e123456789", 123456789},
		{"e+0", 0}, {"e+5", 5}, {"e+0012", 12},
		{"e-0", 0}, {"e-5", -5}, {"e-0012", -12}, {"e-123456789", -123456789},
	}
	for _, m := range mantissas {
		for _, e := range exponents {
			for _, ahead := range []string{"", "+", "-"} {
				want := grammar.Parts{Class: api.Finite, Sign: ahead == "-", Digits: m.digits, Exp: e.exp - m.behind}
				is(t, ahead+m.text+e.text, want)
				is(t, ahead+m.text+strings.ToUpper(e.text), want)
			}
		}
	}
}

// cases is a word in each mixture of great and small letters.
func cases(word string) []string {
	list := []string{""}
	for _, c := range word {
		var next []string
		for _, s := range list {
			next = append(next, s+string(c), s+strings.ToUpper(string(c)))
		}
		list = next
	}
	return list
}

// P7.1: the words, in all mixtures of letters, with each sign.
func TestWords(t *testing.T) {
	for _, ahead := range []string{"", "+", "-"} {
		sign := ahead == "-"
		for _, s := range append(cases("inf"), cases("infinity")...) {
			is(t, ahead+s, grammar.Parts{Class: api.Infinite, Sign: sign})
		}
		for _, payload := range []struct{ text, digits string }{
			{"", ""}, {"(0)", ""}, {"(000)", ""}, {"(7)", "7"}, {"(07)", "7"}, {"(0070)", "70"}, {"(9876543210)", "9876543210"}, {"(99999999999999999999999999999999999999)", "99999999999999999999999999999999999999"},
		} {
			for _, s := range cases("nan") {
				is(t, ahead+s+payload.text, grammar.Parts{Class: api.NaN, Sign: sign, Digits: payload.digits})
			}
			for _, s := range cases("snan") {
				is(t, ahead+s+payload.text, grammar.Parts{Class: api.NaN, Sign: sign, Signal: true, Digits: payload.digits})
			}
		}
	}
}

// P7.1: what is no text of a number, by itself and with signs ahead.
func TestNoNumber(t *testing.T) {
	for _, s := range []string{
		"", ".", "..", "e", "E", "e5", ".e5", "E+5", "1e", "1E", "1e+", "1e-", "1.e", "1.5e", ".5E-", "1e++5", "1e+-5", "1e--5", "1e5.", "1e.5", "1e5.0", "1e5e5", "1ee5", "1e5+", "1e 5", "1e+ 5",
		"1.5.2", "1..5", "..5", ".5.", "1.+5", "1+", "1-", "1+1", "1-1", "1,5", "1_000", "1'000", "0x1", "0x1p0", "1p0", "0b1", "1d5", "1f", "#1", "a", "1a", "a1",
		"inf(1)", "inf()", "inf(", "infinity(1)", "in", "i", "infi", "infin", "infini", "infinit", "infinityy", "infinitys", "inff", "infnan", "inf1", "1inf", "inf.", "inf0", "infe5", "sinf", "sinfinity", "iinf",
		"n", "na", "nann", "nanan", "naninf", "nan1", "nan.", "nane5", "1nan", "s", "sn", "sna", "ssnan", "s nan", "s-nan", "s+nan", "qnan", "snans", "nans", "an", "nann(1)", "nan nan",
		"nan(", "nan)", "nan()", "nan(1", "nan1)", "nan(1))", "nan((1))", "nan((1)", "nan(1)1", "nan(1)(1)", "nan(1)()", "nan()(1)", "nan(1)e5", "nan(1) ", "nan(1)x", "nan(a)", "nan(1a)", "nan(a1)", "nan(1 )", "nan( 1)", "nan (1)", "nan(+1)", "nan(-1)", "nan(1.0)", "nan(1.)", "nan(1e5)", "nan(0x1)", "nan[1]", "nan{1}", "nan<1>", "nan(1]", "nan[1)", "nan)1(", "nan:1", "(1)nan", "(nan)", "nan(nan)", "nan(inf)",
		"(1)", "1(1)", "(1", "1)", "()", "snan(", "snan()", "snan(1", "snan(a)", "snan(1))",
		" ", "\t", "\n", "1\n", "\n1", " 1", "1 ", "1 2", "inf ", " inf", "nan\n", "nan(1)\n", "1\x00", "\x001", "inf\x00", "\x00",
	} {
		for _, ahead := range []string{"", "+", "-", "++", "--", "+-", "-+", "+ ", " -"} {
			isNot(t, ahead+s, api.ErrForm)
		}
	}
	for _, s := range []string{"1", "1.5", ".5", "1e5", "inf", "infinity", "nan", "snan(1)"} {
		for _, ahead := range []string{"++", "--", "+-", "-+", "- ", " +", "---"} {
			isNot(t, ahead+s, api.ErrForm)
		}
		for _, behind := range []string{"+", "-", " ", "\x00", "\r\n", "x", ".", "e", "(", ")"} {
			if s+behind != "1." {
				isNot(t, s+behind, api.ErrForm)
			}
		}
	}
}

// P7.1: noughts, blanks, points, signs and letters of other scripts are none of the grammar's, though the library takes some for the same.
func TestOtherScripts(t *testing.T) {
	strangers := []string{
		"\u0660", "\u0661", "\u06f0", "\u07c0", "\u0966", "\uff10", "\uff11", "\U0001d7ce", "\u00b2", "\u2070", "\u2460", "\u3007", "\u0e50", // noughts and ones
		"\u017f", "\u0130", "\u0131", "\u212a", "\uff29", "\uff49", "\uff2e", "\uff4e", "\u0441", "\u0435", "\u0415", "\u0430", "\u0456", "\u212e", "\u2147", "\u03b1", "\u03bd", "\u00ec", "\u0307", // letters
		"\u2212", "\u2010", "\u2013", "\ufe63", "\uff0d", "\uff0b", "\u207a", "\u207b", "\u2795", // signs
		"\uff0e", "\u2024", "\u00b7", "\u066b", "\u3002", // points
		"\uff08", "\uff09", "\u207d", "\u207e", "\u2768", // brackets
		"\u00a0", "\u0085", "\u2003", "\u3000", "\u200b", "\ufeff", "\u2028", // blanks
		"\ufffd", "\u0080", "\u00ad", "\u221e", "\U0010ffff",
	}
	for _, stranger := range strangers {
		for _, s := range []string{"-0.10e+05", "+1", "10.", ".5e-1", "-inf", "INFINITY", "+nan", "sNaN(070)"} {
			for i := range len(s) + 1 {
				isNot(t, s[:i]+stranger+s[i:], api.ErrForm)
				if i < len(s) {
					isNot(t, s[:i]+stranger+s[i+1:], api.ErrForm)
				}
			}
		}
		isNot(t, stranger, api.ErrForm)
	}
	isNot(t, "\u221e", api.ErrForm)
	isNot(t, "\uff29\uff2e\uff26", api.ErrForm)
	isNot(t, "\u0661\u0662", api.ErrForm)
}

// P7.1: texts of just MostText bytes, and of one more, whose error comes ahead of the form's.
func TestLength(t *testing.T) {
	fill := func(ahead, one, behind string, size int) string {
		return ahead + strings.Repeat(one, size-len(ahead)-len(behind)) + behind
	}
	for _, c := range []struct {
		ahead, one, behind string
		want               grammar.Parts
	}{
		{"", "1", "", finite(strings.Repeat("1", most), 0)},
		{"", "0", "", finite("", 0)},
		{"", "0", "7", finite("7", 0)},
		{"-7", "0", "", grammar.Parts{Class: api.Finite, Sign: true, Digits: "7" + noughts(most-2)}},
		{"", "9", ".", finite(strings.Repeat("9", most-1), 0)},
		{".", "0", "", finite("", 1-most)},
		{".", "0", "7", finite("7", 1-most)},
		{"0.", "8", "", finite(strings.Repeat("8", most-2), 2-most)},
		{"+", "0", ".70", finite("70", -2)},
		{"1e", "0", "5", finite("1", 5)},
		{"1E-", "0", "5", finite("1", -5)},
		{"1e+", "0", "", finite("1", 0)},
		{"1e", "9", "", finite("1", billion)},
		{"1e-", "9", "", finite("1", -billion)},
		{"nan(", "0", ")", grammar.Parts{Class: api.NaN}},
		{"nan(", "3", ")", grammar.Parts{Class: api.NaN, Digits: strings.Repeat("3", most-5)}},
		{"-snan(", "0", "3)", grammar.Parts{Class: api.NaN, Sign: true, Signal: true, Digits: "3"}},
	} {
		is(t, fill(c.ahead, c.one, c.behind, most), c.want)
		isNot(t, fill(c.ahead, c.one, c.behind, most+1), api.ErrLong)
	}
	for _, c := range []struct{ ahead, one, behind string }{
		{"", "x", ""}, {"", "1", "x"}, {"x", "1", ""}, {"", "1", "e"}, {"1e", "1", "."}, {"nan(", "1", ""}, {"nan(", "1", "))"}, {"", " ", "1"}, {"inf", " ", ""}, {"", "+", "1"}, {"", ".", ""}, {"", "\x00", ""}, {"", "\xff", ""}, {"inf", "y", ""}, {"", "s", "nan"},
	} {
		isNot(t, fill(c.ahead, c.one, c.behind, most), api.ErrForm)
		isNot(t, fill(c.ahead, c.one, c.behind, most+1), api.ErrLong)
	}
	// Bytes are counted, not letters.
	isNot(t, strings.Repeat("\u0660", most/2), api.ErrForm)
	isNot(t, strings.Repeat("\u0660", most/2)+"1", api.ErrLong)
	isNot(t, strings.Repeat("1", 1<<20), api.ErrLong)
}

// P7.1: exponents that bring Exp just to its bounds, and beyond them.
func TestBounds(t *testing.T) {
	for _, c := range []struct {
		text string
		exp  int
	}{
		{"1e999999999", billion - 1}, {"1e1000000000", billion}, {"1e1000000001", billion}, {"1e01000000000", billion}, {"1e+0000000000000000999999999", billion - 1},
		{"1e-999999999", 1 - billion}, {"1e-1000000000", -billion}, {"1e-1000000001", -billion}, {"1e-0000000000000000999999999", 1 - billion},
		// What wraps round.
		{"1e2147483647", billion}, {"1e2147483648", billion}, {"1e-2147483648", -billion}, {"1e-2147483649", -billion}, {"1e4294967295", billion}, {"1e4294967296", billion}, {"1e4294967301", billion}, {"1e-4294967296", -billion},
		{"1e9223372036854775807", billion}, {"1e9223372036854775808", billion}, {"1e-9223372036854775808", -billion}, {"1e-9223372036854775809", -billion},
		{"1e18446744073709551615", billion}, {"1e18446744073709551616", billion}, {"1e18446744073709551621", billion}, {"1e-18446744073709551616", -billion}, {"1e-18446744073709551621", -billion},
		{"1e340282366920938463463374607431768211456", billion}, {"1e-340282366920938463463374607431768211456", -billion},
		{"1e1999999999", billion}, {"1e2000000000", billion}, {"1e2000000001", billion}, {"1e-2000000000", -billion}, {"1e10000000000", billion}, {"1e-10000000000", -billion},
	} {
		is(t, c.text, finite("1", c.exp))
		is(t, "-0"+c.text[1:], grammar.Parts{Class: api.Finite, Sign: true, Exp: c.exp})
	}
}

// P7.1: the bounds hold for Exp, not for the exponent: digits behind the point count first.
func TestBoundsBehindThePoint(t *testing.T) {
	is(t, "1.000e1000000000", finite("1000", billion-3))
	is(t, "1.0e1000000001", finite("10", billion))
	is(t, "1.0e1000000002", finite("10", billion))
	is(t, "1.0e1000000003", finite("10", billion))
	is(t, ".01e-999999998", finite("1", -billion))
	is(t, ".01e-999999997", finite("1", 1-billion))
	is(t, ".01e-999999999", finite("1", -billion))
	is(t, ".01e-1000000000", finite("1", -billion))
	is(t, ".00e1000000001", finite("", billion-1))
	long := "7." + noughts(3900)
	digits := "7" + noughts(3900)
	is(t, long+"e1000003899", finite(digits, billion-1))
	is(t, long+"e1000003900", finite(digits, billion))
	is(t, long+"e1000003901", finite(digits, billion))
	is(t, long+"e1000000000", finite(digits, billion-3900))
	is(t, long+"e3900", finite(digits, 0))
	is(t, long+"e-999996099", finite(digits, 1-billion))
	is(t, long+"e-999996100", finite(digits, -billion))
	is(t, long+"e-999996101", finite(digits, -billion))
	is(t, long+"e-1000000000", finite(digits, -billion))
	// The most digits behind the point, and the least exponent that is still above the bound.
	is(t, "."+noughts(3987)+"e1000003987", finite("", billion))
	is(t, "."+noughts(3988)+"e1000003987", finite("", billion-1))
	// Exponents of many hundred digits.
	for _, size := range []int{300, 900, 1980} {
		point := "." + noughts(1998) + "7"
		nines := strings.Repeat("9", size)
		is(t, point+"e"+nines, finite("7", billion))
		is(t, point+"E+"+nines, finite("7", billion))
		is(t, point+"e-"+nines, finite("7", -billion))
		is(t, point+"e1"+noughts(size), finite("7", billion))
		is(t, point+"e"+noughts(size)+"2000", finite("7", 1))
		is(t, point+"e"+noughts(size)+"1000001998", finite("7", billion-1))
		is(t, point+"e-"+noughts(size)+"1", finite("7", -2000))
	}
}

// shared says whether two texts have a byte of memory in common.
func shared(a, b string) bool {
	if a == "" || b == "" {
		return false
	}
	first, second := uintptr(unsafe.Pointer(unsafe.StringData(a))), uintptr(unsafe.Pointer(unsafe.StringData(b)))
	return first < second+uintptr(len(b)) && second < first+uintptr(len(a))
}

// R3: an answer shares no memory with what came in.
func TestMemory(t *testing.T) {
	for _, text := range []string{"1234567", "-1234567", "0001234567", "1234567.", ".1234567", "123.4567", "1234567e5", "nan(1234567)", "SNAN(01234567)"} {
		s := strings.Clone(text)
		p, e := grammar.Cut(s)
		if e != api.OK || p.Digits != "1234567" || shared(p.Digits, s) {
			t.Error(text, p, e)
		}
		joined, e := grammar.Join(p)
		if e != api.OK || shared(joined, p.Digits) {
			t.Error(joined, e)
		}
	}
}
