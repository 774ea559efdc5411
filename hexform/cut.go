package hexform

import (
	"strconv"
	"strings"

	"caliper/api"
	"caliper/grammar"
)

const (
	hexDigits = "0123456789abcdefABCDEF"
	// wordDigits is how many hexadecimal digits a natural's word has.
	wordDigits = 16
)

// value is what a finite hexadecimal text says: coef, a natural of layer 2, times 2^exp.
type value struct {
	sign bool
	coef []uint64
	exp  int
}

// cut is a finite hexadecimal text's value: false if the text is none.
func cut(s string) (value, bool) {
	sign, rest := leadingSign(s)
	rest, ok := afterMark(rest)
	if !ok {
		return value{}, false
	}
	whole, rest := leadingDigits(rest)
	fraction := ""
	if behind, ok := strings.CutPrefix(rest, "."); ok {
		fraction, rest = leadingDigits(behind)
	}
	exp, ok := exponent(rest)
	if !ok || whole == "" && fraction == "" {
		return value{}, false
	}
	return value{sign, natural(whole + fraction), exp - 4*len(fraction)}, true
}

// leadingSign says whether a - stands ahead, and is what stands behind the sign.
func leadingSign(s string) (minus bool, rest string) {
	if s != "" && (s[0] == '+' || s[0] == '-') {
		return s[0] == '-', s[1:]
	}
	return false, s
}

// afterMark is what stands behind 0x or 0X, and whether that stands ahead.
func afterMark(s string) (rest string, ok bool) {
	if len(s) < 2 || s[0] != '0' || s[1] != 'x' && s[1] != 'X' {
		return s, false
	}
	return s[2:], true
}

// leadingDigits is the hexadecimal digits that stand ahead, and what stands behind them.
func leadingDigits(s string) (digits, rest string) {
	rest = strings.TrimLeft(s, hexDigits)
	return s[:len(s)-len(rest)], rest
}

// exponent is the number behind a p: at most 10^9, at least -10^9.
func exponent(s string) (int, bool) {
	if s == "" || s[0] != 'p' && s[0] != 'P' {
		return 0, false
	}
	// What stands behind a decimal text's e has the same form and the same bounds. The 0x that stood ahead leaves room for 0e: this text isn't too long for layer 7.
	p, errno := grammar.Cut("0e" + s[1:])
	return p.Exp, errno == api.OK
}

// natural is the number of hexadecimal digits.
func natural(digits string) []uint64 {
	var words []uint64
	for end := len(digits); end > 0; end -= wordDigits {
		word, _ := strconv.ParseUint(digits[max(0, end-wordDigits):end], 16, 64)
		words = append(words, word)
	}
	return words
}
