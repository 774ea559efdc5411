package nat

import (
	"bytes"
	"slices"

	"caliper/api"
)

// A word holds any number of so many digits, and the power of ten beyond them.
const (
	partDigits = 19
	partPower  = 10_000_000_000_000_000_000
)

// Digits is a's decimal digits, "0" of 0: ErrLong if its size is above MostLimbs.
func Digits(a []uint64) (string, api.Errno) {
	if len(bare(a)) > api.MostLimbs {
		return "", api.ErrLong
	}
	// The divisions give the digits from the lowest up.
	var digits []byte
	for left := Trim(a); len(left) > 0; left = bare(left) {
		part := divideBy(left, partPower)
		for range partDigits {
			digits = append(digits, '0'+byte(part%10))
			part /= 10
		}
	}
	digits = bytes.TrimRight(digits, "0")
	if len(digits) == 0 {
		return "0", api.OK
	}
	slices.Reverse(digits)
	return string(digits), api.OK
}

// Read is the number whose decimal digits s has: ErrForm if s has none or anything but digits, ErrLong if it has more than MostPower.
func Read(s string) ([]uint64, api.Errno) {
	if !allDigits(s) {
		return nil, api.ErrForm
	}
	if len(s) > api.MostPower {
		return nil, api.ErrLong
	}
	var number []uint64
	for len(s) > 0 {
		length := min(len(s), partDigits)
		number = appendPart(number, s[:length])
		s = s[length:]
	}
	return number, api.OK
}

func allDigits(s string) bool {
	for i := range len(s) {
		if s[i] < '0' || s[i] > '9' {
			return false
		}
	}
	return len(s) > 0
}

// appendPart sets at most partDigits more digits behind those of the number. It never ends in a nought: 0 stays without words.
func appendPart(number []uint64, digits string) []uint64 {
	scale, beyond := uint64(1), uint64(0)
	for i := range len(digits) {
		scale *= 10
		beyond = beyond*10 + uint64(digits[i]-'0')
	}
	for i, word := range number {
		number[i], beyond = mulAdd(word, scale, 0, beyond)
	}
	if beyond > 0 {
		number = append(number, beyond)
	}
	return number
}
