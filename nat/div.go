package nat

import (
	"math"
	"math/bits"

	"caliper/api"
)

// Div is the quotient, rounded down, and the rest: ErrArg if b is 0, ErrLong if a's or b's size is above MostLimbs.
func Div(a, b []uint64) ([]uint64, []uint64, api.Errno) {
	number, divisor := bare(a), bare(b)
	if len(divisor) == 0 {
		return nil, nil, api.ErrArg
	}
	if len(number) > api.MostLimbs || len(divisor) > api.MostLimbs {
		return nil, nil, api.ErrLong
	}
	if len(number) < len(divisor) {
		return nil, Trim(number), api.OK
	}
	if len(divisor) == 1 {
		quotient := Trim(number)
		rest := divideBy(quotient, divisor[0])
		return bare(quotient), bare([]uint64{rest}), api.OK
	}
	quotient, rest := divideLong(number, divisor)
	return bare(quotient), bare(rest), api.OK
}

// divideBy leaves the quotient by n, which is not 0, in place of the number, and tells the rest.
func divideBy(number []uint64, n uint64) uint64 {
	var rest uint64
	for i := len(number) - 1; i >= 0; i-- {
		// The rest is below n, as bits.Div64 asks of the high word.
		number[i], rest = bits.Div64(rest, number[i], n)
	}
	return rest
}

// divideLong is division word by word, as by hand. The divisor has two words or more, and the number no fewer.
func divideLong(number, divisor []uint64) (quotient, rest []uint64) {
	size := len(divisor)
	// With the divisor's highest bit set a guess from its highest words is at most one too great.
	shift := bits.LeadingZeros64(divisor[size-1])
	v := make([]uint64, size+1)
	shiftUp(v, divisor, shift)
	v = v[:size]
	left := make([]uint64, len(number)+1)
	shiftUp(left, number, shift)
	quotient = make([]uint64, len(number)-size+1)
	for i := len(quotient) - 1; i >= 0; i-- {
		quotient[i] = divideStep(left[i:i+size+1], v)
	}
	rest = make([]uint64, size)
	shiftDown(rest, left[:size], shift)
	return quotient, rest
}

// divideStep takes v from left, which has one word more and is below v times 2^64, as often as it goes, and tells how often. The highest word is then nought, and nobody looks at it again.
func divideStep(left, v []uint64) uint64 {
	top := len(v)
	digit := guess(left[top], left[top-1], v[top-1], v[top-2])
	if left[top] < subProduct(left, v, digit) {
		digit--
		addInto(left, v)
	}
	return digit
}

// guess is a word of the quotient, from the two highest words of what is left and of the divisor: the right one or one more.
func guess(u1, u0, v1, v0 uint64) uint64 {
	if u1 >= v1 {
		// The quotient of the highest words is no word any more. As v1 has its highest bit, the right one is this or one less.
		return math.MaxUint64
	}
	digit, rest := bits.Div64(u1, u0, v1)
	for {
		// With a high word no greater than the rest, what would be taken too much is less than the divisor, whatever the words below.
		high, _ := bits.Mul64(digit, v0)
		if high <= rest {
			return digit
		}
		digit--
		rest += v1
		if rest < v1 {
			// The rest has a bit beyond its word: no product is above it now.
			return digit
		}
	}
}

// subProduct takes a times n from as many words at the beginning of left as a has, and tells what is still to be taken beyond.
func subProduct(left, a []uint64, n uint64) uint64 {
	var beyond uint64
	for i, word := range a {
		low, high := mulAdd(word, n, 0, beyond)
		var borrow uint64
		left[i], borrow = bits.Sub64(left[i], low, 0)
		// This never wraps: with one word beside the product, high is at most 2^64 - 2 or low is 0.
		beyond = high + borrow
	}
	return beyond
}
