// Package limbs is layer 1: numbers of a fixed width, in arrays, the same functions for all widths.
package limbs

import "math/bits"

// Width is a number of 1, 2, 4 or 8 words, the lowest first.
type Width interface {
	[1]uint64 | [2]uint64 | [4]uint64 | [8]uint64
}

const wordBits = 64

// Of is n at any width.
func Of[W Width](n uint64) W {
	var number W
	number[0] = n
	return number
}

// Add is the sum modulo 2^N, and what is carried out of the highest word.
func Add[W Width](a, b W) (W, uint64) {
	var sum W
	var carry uint64
	for i := range len(a) {
		sum[i], carry = bits.Add64(a[i], b[i], carry)
	}
	return sum, carry
}

// Sub is the difference modulo 2^N, and what is borrowed beyond the highest word.
func Sub[W Width](a, b W) (W, uint64) {
	var difference W
	var borrow uint64
	for i := range len(a) {
		difference[i], borrow = bits.Sub64(a[i], b[i], borrow)
	}
	return difference, borrow
}

// Cmp is -1, 0 or 1, as a is below b, b itself or above it.
func Cmp[W Width](a, b W) int {
	for i := len(a) - 1; i >= 0; i-- {
		if a[i] < b[i] {
			return -1
		}
		if a[i] > b[i] {
			return 1
		}
	}
	return 0
}

// Shl is a shifted up by n bits, modulo 2^N: a itself if n is below 1.
func Shl[W Width](a W, n int) W {
	if n < 1 {
		return a
	}
	var shifted W
	words, rest := n/wordBits, n%wordBits
	for i := words; i < len(a); i++ {
		shifted[i] = a[i-words] << rest
		if i > words {
			// A shift by a whole word is 0, so a rest of 0 needs no case of its own.
			shifted[i] |= a[i-words-1] >> (wordBits - rest)
		}
	}
	return shifted
}

// Shr is a shifted down by n bits: a itself if n is below 1.
func Shr[W Width](a W, n int) W {
	if n < 1 {
		return a
	}
	var shifted W
	words, rest := n/wordBits, n%wordBits
	for i := words; i < len(a); i++ {
		shifted[i-words] = a[i] >> rest
		if i+1 < len(a) {
			// As in Shl, a rest of 0 brings nothing in.
			shifted[i-words] |= a[i+1] << (wordBits - rest)
		}
	}
	return shifted
}

// Len is how many bits a has, 0 of 0.
func Len[W Width](a W) int {
	for i := len(a) - 1; i >= 0; i-- {
		if a[i] != 0 {
			return i*wordBits + bits.Len64(a[i])
		}
	}
	return 0
}

// Bit is the bit of the value 2^n, 0 where a has no such bit.
func Bit[W Width](a W, n int) uint {
	if n < 0 || n >= len(a)*wordBits {
		return 0
	}
	return uint(a[n/wordBits]>>(n%wordBits)) & 1
}

// Mul is the product modulo 2^N, and the word beyond.
func Mul[W Width](a W, n uint64) (W, uint64) {
	var product W
	var beyond uint64
	for i := range len(a) {
		high, low := bits.Mul64(a[i], n)
		word, carry := bits.Add64(low, beyond, 0)
		product[i] = word
		// This never wraps: a product's high word is at most 2^64 - 2.
		beyond = high + carry
	}
	return product, beyond
}

// Div is the quotient and the rest, 0 and 0 if n is 0.
func Div[W Width](a W, n uint64) (W, uint64) {
	var quotient W
	var rest uint64
	if n == 0 {
		return quotient, 0
	}
	for i := len(a) - 1; i >= 0; i-- {
		// The rest is below n, as bits.Div64 asks of the high word.
		quotient[i], rest = bits.Div64(rest, a[i], n)
	}
	return quotient, rest
}
