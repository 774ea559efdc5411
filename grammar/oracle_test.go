package grammar_test

import (
	"math/big"
	"regexp"
	"strings"
	"testing"

	"caliper/api"
	"caliper/grammar"
)

// The grammar as regular expressions, each letter written in both sizes: they share no code with the package.
var (
	numbers  = regexp.MustCompile(`\A([+-]?)(?:([0-9]+)(?:\.([0-9]*))?|\.([0-9]+))(?:[eE]([+-]?[0-9]+))?\z`)
	infinite = regexp.MustCompile(`\A([+-]?)[iI][nN][fF](?:[iI][nN][iI][tT][yY])?\z`)
	nans     = regexp.MustCompile(`\A([+-]?)([sS]?)[nN][aA][nN](?:\(([0-9]+)\))?\z`)
)

// oracle is what Cut must answer.
func oracle(s string) (grammar.Parts, api.Errno) {
	if len(s) > most {
		return grammar.Parts{}, api.ErrLong
	}
	if m := numbers.FindStringSubmatch(s); m != nil {
		behind := m[3] + m[4]
		return grammar.Parts{Class: 1, Sign: m[1] == "-", Digits: bare(m[2] + behind), Exp: exponent(m[5], len(behind))}, api.OK
	}
	if m := infinite.FindStringSubmatch(s); m != nil {
		return grammar.Parts{Class: 2, Sign: m[1] == "-"}, api.OK
	}
	if m := nans.FindStringSubmatch(s); m != nil {
		return grammar.Parts{Class: 3, Sign: m[1] == "-", Signal: m[2] != "", Digits: bare(m[3])}, api.OK
	}
	return grammar.Parts{}, api.ErrForm
}

// bare is digits as a number is written: none for 0.
func bare(digits string) string {
	n, ok := new(big.Int).SetString(digits, 10)
	if !ok || n.Sign() == 0 {
		return ""
	}
	return n.String()
}

// exponent is a text's exponent less the digits behind the point, within the bounds.
func exponent(text string, behind int) int {
	n, ok := new(big.Int).SetString(text, 10)
	if !ok {
		n = new(big.Int)
	}
	n.Sub(n, big.NewInt(int64(behind)))
	bound := big.NewInt(billion)
	if n.CmpAbs(bound) > 0 {
		return n.Sign() * billion
	}
	return int(n.Int64())
}

// asOracle fails unless Cut answers what the oracle does.
func asOracle(t *testing.T, s string) {
	t.Helper()
	p, e := grammar.Cut(s)
	if want, errno := oracle(s); p != want || e != errno {
		t.Errorf("Cut(%.80q): %s, %d, not %s, %d", s, brief(p), e, brief(want), errno)
	}
}

// every calls f with each text of up to so many of these signs.
func every(signs string, size int, f func(string)) {
	text := make([]byte, 0, size)
	var longer func()
	longer = func() {
		f(string(text))
		if len(text) == size {
			return
		}
		for i := range len(signs) {
			text = append(text, signs[i])
			longer()
			text = text[:len(text)-1]
		}
	}
	longer()
}

// P7.1: all short texts of the signs that numbers have.
func TestEveryShortNumber(t *testing.T) {
	every("07.eE+-", 6, func(s string) { asOracle(t, s) })
}

// P7.1: all short texts of bytes of any kind.
func TestEveryPairOfBytes(t *testing.T) {
	all := make([]byte, 256)
	for i := range all {
		all[i] = byte(i)
	}
	every(string(all), 2, func(s string) { asOracle(t, s) })
}

// P7.1: all short ends behind the words.
func TestEveryEnd(t *testing.T) {
	for _, word := range []string{"nan", "sNAN", "-nan", "inf", "infinity", "sna", "infinit"} {
		every("0(7)nNy-e", 4, func(s string) { asOracle(t, word+s) })
	}
}

// P7.1: every byte in the place of each one of a text, and ahead of it, and behind; and the text without it.
func TestEveryByteAtEachPlace(t *testing.T) {
	for _, s := range []string{"-1.50e+3", "+07.E-05", ".5", "10", "1e5", "-inf", "+Infinity", "nan", "-sNaN(07)", "NAN(0)"} {
		for i := range len(s) + 1 {
			for c := range 256 {
				asOracle(t, s[:i]+string([]byte{byte(c)})+s[i:])
				if i < len(s) {
					asOracle(t, s[:i]+string([]byte{byte(c)})+s[i+1:])
				}
			}
			if i < len(s) {
				asOracle(t, s[:i]+s[i+1:])
			}
			asOracle(t, s[:i])
			asOracle(t, s[i:])
		}
	}
}

// P7.1: long texts: digits, points and exponents of many sizes beside each other.
func TestLongNumbers(t *testing.T) {
	sizes := []int{0, 1, 9, 19, 20, 400, 1300}
	for _, whole := range sizes {
		for _, behind := range sizes {
			for _, size := range sizes {
				for _, mark := range []string{"e", "E+", "e-"} {
					for _, digit := range []string{"0", "1", "9"} {
						s := strings.Repeat("0", whole/2) + strings.Repeat("4", whole-whole/2) + "." + strings.Repeat("0", behind)
						asOracle(t, s)
						asOracle(t, "-"+s+mark+strings.Repeat(digit, size))
						asOracle(t, s+mark+strings.Repeat(digit, size)+"1000000000")
					}
				}
			}
		}
	}
}

// P7.1, R1: whatever text, Cut ends as the oracle says. P7.3: what Join makes of it is cut into it.
func FuzzCut(f *testing.F) {
	for _, s := range []string{"", "-1.50e3", "0.00", "sNaN(07)", "infinity", "+.5E-1000000001", "nan(", "\u017fnan", "\u0130nf", "1e", "\xff"} {
		f.Add(s)
	}
	f.Fuzz(func(t *testing.T, s string) {
		asOracle(t, s)
		p, e := grammar.Cut(s)
		if e != api.OK {
			return
		}
		joined, e := grammar.Join(p)
		if e != api.OK {
			if len(s) < most/2 {
				t.Errorf("Join(%s): %d", brief(p), e)
			}
			return
		}
		is(t, joined, p)
	})
}
