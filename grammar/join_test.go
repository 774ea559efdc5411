package grammar_test

import (
	"math"
	"strconv"
	"strings"
	"testing"

	"caliper/api"
	"caliper/grammar"
)

// joins fails unless Join answers this text, and Cut the parts of it.
func joins(t *testing.T, p grammar.Parts, want string) {
	t.Helper()
	if s, e := grammar.Join(p); s != want || e != api.OK {
		t.Errorf("Join(%s): %.80q, %d, not %.80q", brief(p), s, e, want)
	}
	is(t, want, p)
}

// joinsNot fails unless Join answers ErrArg, and nothing beside it.
func joinsNot(t *testing.T, p grammar.Parts) {
	t.Helper()
	if s, e := grammar.Join(p); s != "" || e != api.ErrArg {
		t.Errorf("Join(%s): %.80q, %d", brief(p), s, e)
	}
}

// P7.2: the texts of each class, in both signs.
func TestJoin(t *testing.T) {
	for _, c := range []struct {
		parts grammar.Parts
		want  string
	}{
		{finite("", 0), "0"},
		{finite("", 1), "0e1"},
		{finite("", -2), "0e-2"},
		{finite("", billion), "0e1000000000"},
		{finite("", -billion), "0e-1000000000"},
		{finite("7", 0), "7"},
		{finite("150", 0), "150"},
		{finite("150", 1), "150e1"},
		{finite("150", -1), "150e-1"},
		{finite("1000", 10), "1000e10"},
		{finite("9876543210", -100), "9876543210e-100"},
		{finite("1", billion), "1e1000000000"},
		{finite("1", billion-1), "1e999999999"},
		{finite("1", -billion), "1e-1000000000"},
		{finite("1", 1-billion), "1e-999999999"},
		{grammar.Parts{Class: api.Infinite}, "inf"},
		{grammar.Parts{Class: api.NaN}, "nan"},
		{grammar.Parts{Class: api.NaN, Signal: true}, "snan"},
		{grammar.Parts{Class: api.NaN, Digits: "7"}, "nan(7)"},
		{grammar.Parts{Class: api.NaN, Digits: "700"}, "nan(700)"},
		{grammar.Parts{Class: api.NaN, Signal: true, Digits: "7"}, "snan(7)"},
		{grammar.Parts{Class: api.NaN, Signal: true, Digits: "1234567890"}, "snan(1234567890)"},
	} {
		joins(t, c.parts, c.want)
		c.parts.Sign = true
		joins(t, c.parts, "-"+c.want)
	}
}

// P7.2: parts that no text has.
func TestJoinNothing(t *testing.T) {
	exps := []int{billion + 1, -billion - 1, 2 * billion, -2 * billion, math.MaxInt32, math.MinInt32, math.MaxInt, math.MinInt, math.MaxInt - 1, math.MinInt + 1, 1 << 32, -1 << 32}
	wrong := []grammar.Parts{
		{Class: api.Finite, Signal: true}, {Class: api.Finite, Signal: true, Digits: "7", Exp: 1},
		{Class: api.Infinite, Signal: true}, {Class: api.Infinite, Digits: "7"}, {Class: api.Infinite, Digits: "0"}, {Class: api.Infinite, Digits: "inf"}, {Class: api.Infinite, Digits: strings.Repeat("7", most+1)},
		{Class: api.Infinite, Exp: 1}, {Class: api.Infinite, Exp: -1}, {Class: api.Infinite, Exp: math.MinInt},
		{Class: api.NaN, Exp: 1}, {Class: api.NaN, Exp: -1}, {Class: api.NaN, Signal: true, Digits: "7", Exp: 1}, {Class: api.NaN, Exp: math.MaxInt},
	}
	for _, exp := range exps {
		wrong = append(wrong, finite("7", exp), finite("", exp))
	}
	for _, class := range []int{0, -1, 4, 5, 1<<32 + 1, 1<<32 + 2, 257, math.MinInt, math.MaxInt} {
		for _, digits := range []string{"", "7", "inf", "nan", "nan(7)"} {
			wrong = append(wrong, grammar.Parts{Class: class, Digits: digits}, grammar.Parts{Class: class, Digits: digits, Exp: 3}, grammar.Parts{Class: class, Digits: digits, Signal: true})
		}
	}
	for _, p := range wrong {
		joinsNot(t, p)
		p.Sign = true
		joinsNot(t, p)
	}
}

// P7.2: Digits that are none, or have noughts ahead.
func TestJoinDigits(t *testing.T) {
	for _, digits := range []string{
		"0", "00", "01", "007", "0150", " ", "1 ", " 1", "a", "1a", "+", "-", "+1", "-1", ".", "1.", ".1", "1.5", "e", "1e", "1e5", "e5", "1E5", "1e-5", "1.5e3", "inf", "infinity", "nan", "snan", "nan(1)", "(1)", "(", ")", "1)", "1)(1", ")(", "\x00", "1\x00", "1\n", "\xff", "\x80", "\u0661", "\uff11", "1_0", "0x1",
	} {
		for _, class := range []int{api.Finite, api.Infinite, api.NaN, 0} {
			for _, exp := range []int{0, 1, -1, billion} {
				for i := range 4 {
					joinsNot(t, grammar.Parts{Class: class, Sign: i&1 != 0, Signal: i&2 != 0, Digits: digits, Exp: exp})
				}
			}
		}
	}
	// Every byte that is no digit, at each place.
	for c := range 256 {
		if '0' <= c && c <= '9' {
			continue
		}
		for i := range 4 {
			digits := "123"[:i] + string([]byte{byte(c)}) + "123"[i:]
			joinsNot(t, finite(digits, 0))
			joinsNot(t, finite(digits, 5))
			joinsNot(t, grammar.Parts{Class: api.NaN, Digits: digits})
			joinsNot(t, grammar.Parts{Class: api.NaN, Signal: true, Digits: digits})
		}
	}
}

// P7.2: texts of just MostText bytes, and of one more.
func TestJoinLength(t *testing.T) {
	for _, c := range []struct {
		parts         grammar.Parts
		ahead, behind string
	}{
		{finite("", 0), "", ""},
		{finite("", 5), "", "e5"},
		{finite("", -5), "", "e-5"},
		{finite("", 100), "", "e100"},
		{finite("", billion), "", "e1000000000"},
		{finite("", -billion), "", "e-1000000000"},
		{grammar.Parts{Class: api.NaN}, "nan(", ")"},
		{grammar.Parts{Class: api.NaN, Signal: true}, "snan(", ")"},
	} {
		for _, sign := range []bool{false, true} {
			p := c.parts
			p.Sign = sign
			if sign {
				c.ahead = "-" + c.ahead
			}
			size := most - len(c.ahead) - len(c.behind)
			for _, less := range []int{2, 1, 0} {
				p.Digits = strings.Repeat("7", size-less)
				joins(t, p, c.ahead+p.Digits+c.behind)
			}
			for _, more := range []int{1, 2, 20, most, 1 << 20} {
				p.Digits = strings.Repeat("7", size+more)
				joinsNot(t, p)
			}
		}
	}
}

// P7.3: Cut of what Join answers is the same parts, and Join refuses just what no short text has.
func TestCutUndoesJoin(t *testing.T) {
	exps := []int{0, 1, -1, 9, -10, 4000, billion - 1, billion, billion + 1, 1 - billion, -billion, -billion - 1, math.MaxInt, math.MinInt}
	lists := []string{"", "1", "9", "10", "150", "1234567890", "98765432109876543210987654321098765432109876543210", strings.Repeat("3", 3989), strings.Repeat("3", 3995), strings.Repeat("3", most), "0", "01", "x", "1.5", strings.Repeat("3", most+1)}
	for class := -1; class <= 5; class++ {
		for _, digits := range lists {
			for _, exp := range exps {
				for i := range 4 {
					p := grammar.Parts{Class: class, Sign: i&1 != 0, Signal: i&2 != 0, Digits: digits, Exp: exp}
					want, errno := written(p)
					s, e := grammar.Join(p)
					if s != want || e != errno {
						t.Errorf("Join(%s): %.80q, %d, not %.80q, %d", brief(p), s, e, want, errno)
					}
					if e == api.OK {
						is(t, s, p)
					}
				}
			}
		}
	}
}

// written is what Join must answer, by the chapter's words and the oracle's.
func written(p grammar.Parts) (string, api.Errno) {
	s := ""
	switch {
	case p.Class == 2:
		s = "inf"
	case p.Class == 3 && p.Digits == "":
		s = "nan"
	case p.Class == 3:
		s = "nan(" + p.Digits + ")"
	case p.Digits == "":
		s = "0"
	default:
		s = p.Digits
	}
	if p.Class == 3 && p.Signal {
		s = "s" + s
	}
	if p.Class != 2 && p.Class != 3 && p.Exp != 0 {
		s += "e" + strconv.Itoa(p.Exp)
	}
	if p.Sign {
		s = "-" + s
	}
	if back, errno := oracle(s); errno != api.OK || back != p {
		return "", api.ErrArg
	}
	return s, api.OK
}

// P7.2: parts that Cut answers of a long text may have none themselves: the point is shorter than the exponent that stands for it.
func TestJoinOfLongCut(t *testing.T) {
	p, e := grammar.Cut("." + strings.Repeat("7", most-1))
	if e != api.OK {
		t.Fatal(e)
	}
	joinsNot(t, p)
	p, e = grammar.Cut("." + strings.Repeat("7", most-6))
	if e != api.OK {
		t.Fatal(e)
	}
	joins(t, p, strings.Repeat("7", most-6)+"e-3994")
}

// R2: the same parts and texts have the same answers, whatever was asked in between.
func TestSameAnswers(t *testing.T) {
	for range 3 {
		is(t, "-1.50e3", grammar.Parts{Class: api.Finite, Sign: true, Digits: "150", Exp: 1})
		isNot(t, "-1.50e", api.ErrForm)
		is(t, "snan(9)", grammar.Parts{Class: api.NaN, Signal: true, Digits: "9"})
		joins(t, finite("", 0), "0")
		joinsNot(t, finite("0", 0))
		is(t, "INF", grammar.Parts{Class: api.Infinite})
	}
}
