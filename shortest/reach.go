package shortest

import (
	"caliper/api"
	"caliper/choice"
	"caliper/desc"
	"caliper/nat"
)

// reach is a number without its sign, and how far below and above it lies what is read as it, all three over whole. The ends of that are read as the number too if it is closed.
type reach struct {
	number, below, above, whole []uint64
	closed                      bool
}

// digitsOf is D of the shortest digits of a finite number, not 0, and the exponent of the first digit's place.
func digitsOf(number int, d api.Datum) (digits string, place int) {
	r, place := scaled(number, d)
	var text []byte
	for {
		digit, last := r.next()
		if digit == 10 {
			// Only a first digit comes to ten: behind others the digits would have ended one earlier.
			return "1", place + 1
		}
		text = append(text, '0'+byte(digit))
		if last {
			return string(text), place
		}
	}
}

// scaled is a number's reach over the power of ten of its first digit's place, and that place. It goes by the number itself, not by what lies above it in its reach: 9 is as short as 10, and may be nearer.
func scaled(number int, d api.Datum) (*reach, int) {
	place := guess(d)
	r := bounds(number, d, place)
	for {
		more := times(r.whole, 10)
		if nat.Cmp(r.number, more) < 0 {
			return r, place
		}
		r.whole = more
		place++
	}
}

// guess is the first digit's place, or one that is a little lower.
func guess(d api.Datum) int {
	// The number lies at this power of two or above it. 0.30103 is so near to the logarithm of two, for exponents of all formats, that one less is never too high.
	power := nat.Len(d.Coef[:]) - 1 + d.Exp
	return power*30103/100000 - 1
}

// bounds is a number's reach over 10^place.
func bounds(number int, d api.Datum, place int) *reach {
	// Quarters of the coefficient's unit: the middle to the next number below lies one or two of them away.
	quarter, whole := fraction(d.Exp-2, place)
	coef, _ := nat.Mul(d.Coef[:], quarter)
	r := &reach{
		number: times(coef, 4),
		below:  times(quarter, 2),
		above:  times(quarter, 2),
		whole:  whole,
		closed: d.Coef[0]&1 == 0,
	}
	if nearBelow(number, d) {
		r.below = quarter
	}
	return r
}

// nearBelow says whether the next number below is nearer than the next one above.
func nearBelow(number int, d api.Datum) bool {
	info, _ := desc.Of(number)
	least, _ := nat.Power(2, info.Precision-1)
	return d.Exp > info.Least && nat.Cmp(d.Coef[:], least) == 0
}

// fraction is 2^exp / 10^place. The twos of both go together, so that of the power of ten only the fives are left.
func fraction(exp, place int) (num, den []uint64) {
	num, den = []uint64{1}, []uint64{1}
	if place < 0 {
		num, _ = nat.Power(5, -place)
	} else {
		den, _ = nat.Power(5, place)
	}
	if twos := exp - place; twos < 0 {
		den, _ = nat.Shl(den, -twos)
	} else {
		num, _ = nat.Shl(num, twos)
	}
	return num, den
}

// next takes the next digit off the number, and says whether it is the last one. That one leads to the nearer of the two numbers about what is left, or to the one that is within the reach; it may be ten.
func (r *reach) next() (digit uint64, last bool) {
	digit, rest := r.split()
	low := r.within(rest, r.below)
	high := r.within(r.whole, nat.Add(rest, r.above))
	up := high
	if low && high {
		up = choice.Farther(api.Even, false, digit&1 == 1, rest, r.whole)
	}
	if up {
		digit++
	}
	r.number, r.below, r.above = times(rest, 10), times(r.below, 10), times(r.above, 10)
	return digit, low || high
}

// split is the number's whole part, which is below ten, and the rest.
func (r *reach) split() (digit uint64, rest []uint64) {
	quotient, rest, _ := nat.Div(r.number, r.whole)
	if len(quotient) == 0 {
		return 0, rest
	}
	return quotient[0], rest
}

// within says whether a lies below the end, or at it, if the ends count.
func (r *reach) within(a, end []uint64) bool {
	order := nat.Cmp(a, end)
	return order < 0 || order == 0 && r.closed
}

func times(a []uint64, n uint64) []uint64 {
	product, _ := nat.Mul(a, []uint64{n})
	return product
}
