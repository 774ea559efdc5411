package decround_test

import (
	"fmt"
	"math"
	"math/big"
	"sort"
	"testing"

	"caliper/api"
	"caliper/decimal"
	"caliper/decround"
)

// format is what DOC.md says of a decimal format, worked out by hand.
type format struct {
	number, precision, least, most int
}

var formats = []format{
	{7, 7, -101, 90},
	{8, 16, -398, 369},
	{9, 34, -6176, 6111},
	{10, 7, -101, 90},
	{11, 16, -398, 369},
	{12, 34, -6176, 6111},
}

var (
	directions = []int{api.Even, api.Away, api.Zero, api.Up, api.Down}
	signs      = []bool{false, true}
)

const (
	inexact   = api.Inexact
	underflow = api.Underflow + api.Inexact
	overflow  = api.Overflow + api.Inexact
)

// value is num / den times 10^exp, none of them below 0.
type value struct {
	num, den *big.Int
	exp      int
}

func (v value) String() string {
	if v.num.BitLen() > 2000 || v.den.BitLen() > 2000 {
		return fmt.Sprintf("(%d bits)/(%d bits)*10^%d", v.num.BitLen(), v.den.BitLen(), v.exp)
	}
	return fmt.Sprintf("%v/%v*10^%d", v.num, v.den, v.exp)
}

// of is a whole number times 10^exp.
func of(coef *big.Int, exp int) value { return value{coef, big.NewInt(1), exp} }

// over is num and den with all of 10^(v.exp - exp) in them: v is their fraction times 10^exp.
func (v value) over(exp int) (num, den *big.Int) {
	if v.exp > exp {
		return new(big.Int).Mul(v.num, ten(v.exp-exp)), v.den
	}
	return v.num, new(big.Int).Mul(v.den, ten(exp-v.exp))
}

// cmp holds v against coef times 10^exp.
func (v value) cmp(coef *big.Int, exp int) int {
	num, den := v.over(exp)
	return num.Cmp(new(big.Int).Mul(coef, den))
}

// ten is 10^n.
func ten(n int) *big.Int { return new(big.Int).Exp(big.NewInt(10), big.NewInt(int64(n)), nil) }

// two is 2^n.
func two(n int) *big.Int { return new(big.Int).Lsh(big.NewInt(1), uint(n)) }

// plus is n and so many more.
func plus(n *big.Int, more int64) *big.Int { return new(big.Int).Add(n, big.NewInt(more)) }

func times(a, b *big.Int) *big.Int { return new(big.Int).Mul(a, b) }

// spot is where a number lies among those of a format: at coef times 10^exp or above it and below the next one. With an exponent beyond Most it overflows, whatever the direction.
type spot struct {
	format
	coef *big.Int
	exp  int
	// rest and half hold the number against coef and against the middle between coef and the next one.
	rest, half int
	small      bool
	// members are the exponents that the number has in the format, if it is one of the format's.
	members []int
}

// spotted looks a number's place up: first the exponent, then the coefficient, bit by bit.
func (f format) spotted(v value) spot {
	// The exponents above Least to Most, and one beyond, whose least number with all digits isn't above v.
	exp := f.least + sort.Search(f.most+1-f.least, func(i int) bool { return v.cmp(ten(f.precision-1), f.least+1+i) < 0 })
	if exp > f.most {
		return spot{format: f, exp: exp}
	}
	num, den := v.over(exp)
	coef := new(big.Int)
	for bit := ten(f.precision).BitLen(); bit >= 0; bit-- {
		next := new(big.Int).SetBit(coef, bit, 1)
		if times(next, den).Cmp(num) <= 0 {
			coef = next
		}
	}
	middle := plus(times(coef, big.NewInt(2)), 1)
	s := spot{
		format: f,
		coef:   coef,
		exp:    exp,
		rest:   num.Cmp(times(coef, den)),
		half:   times(num, big.NewInt(2)).Cmp(times(middle, den)),
		small:  v.cmp(ten(f.precision-1), f.least) < 0,
	}
	if s.rest == 0 {
		s.members = f.cohort(coef, exp)
	}
	return s
}

// outward says whether a direction goes away from 0, whatever lies near.
func outward(direction int, sign bool) bool {
	return direction == api.Up && !sign || direction == api.Down && sign
}

// answer is what rounding comes to.
type answer struct {
	d     api.Datum
	flags int
}

func finite(sign bool, coef *big.Int, exp int) api.Datum {
	return api.Datum{Class: api.Finite, Sign: sign, Exp: exp, Coef: toBits(coef)}
}

// tooGreat is what becomes of what overflows.
func (f format) tooGreat(direction int, sign bool) answer {
	if direction == api.Even || direction == api.Away || outward(direction, sign) {
		return answer{api.Datum{Class: api.Infinite, Sign: sign}, overflow}
	}
	return answer{finite(sign, plus(ten(f.precision), -1), f.most), overflow}
}

// rounded goes by DOC.md's words over what is known of the spot.
func (s spot) rounded(direction int, sign bool, want int) answer {
	if s.exp > s.most {
		return s.tooGreat(direction, sign)
	}
	if s.rest == 0 {
		coef, exp := s.member(want)
		return answer{finite(sign, coef, exp), 0}
	}
	coef, exp := s.coef, s.exp
	nearest := direction == api.Even || direction == api.Away
	if outward(direction, sign) || nearest && (s.half > 0 || s.half == 0 && (direction == api.Away || coef.Bit(0) == 1)) {
		coef = plus(coef, 1)
	}
	if coef.Cmp(ten(s.precision)) == 0 {
		coef, exp = ten(s.precision-1), exp+1
	}
	switch {
	case exp > s.most:
		return s.tooGreat(direction, sign)
	case s.small:
		return answer{finite(sign, coef, exp), underflow}
	}
	return answer{finite(sign, coef, exp), inexact}
}

// cohort is the exponents with which a format has coef times 10^exp, rising: every exponent is tried that could be one.
func (f format) cohort(coef *big.Int, exp int) []int {
	var exps []int
	for other := max(f.least, exp-f.precision); other <= min(f.most, exp+f.precision); other++ {
		num, den := of(coef, exp).over(other)
		quotient, rest := new(big.Int).QuoRem(num, den, new(big.Int))
		if rest.Sign() == 0 && quotient.Cmp(ten(f.precision)) < 0 {
			exps = append(exps, other)
		}
	}
	return exps
}

// member is the one whose exponent differs the least from want.
func (s spot) member(want int) (*big.Int, int) {
	var nearest int
	var least *big.Int
	for _, exp := range s.members {
		// Differences of ints may be greater than any int.
		away := new(big.Int).Sub(big.NewInt(int64(exp)), big.NewInt(int64(want)))
		away.Abs(away)
		if least == nil || away.Cmp(least) < 0 {
			nearest, least = exp, away
		}
	}
	num, den := of(s.coef, s.exp).over(nearest)
	return new(big.Int).Quo(num, den), nearest
}

func toBits(n *big.Int) api.Bits {
	var b api.Bits
	for i := range b {
		b[i] = new(big.Int).Rsh(n, uint(64*i)).Uint64()
	}
	return b
}

func toBig(words []uint64) *big.Int {
	sum := new(big.Int)
	for i := len(words) - 1; i >= 0; i-- {
		sum.Or(sum.Lsh(sum, 64), new(big.Int).SetUint64(words[i]))
	}
	return sum
}

func words(n *big.Int) []uint64 {
	var list []uint64
	for _, word := range n.Bits() {
		list = append(list, uint64(word))
	}
	return list
}

// result rounds once, where there is no error, and holds the answer against what a datum of the format is.
func result(t *testing.T, number, direction int, sign bool, v value, want int) answer {
	t.Helper()
	d, flags, errno := decround.Decimal(number, direction, sign, words(v.num), words(v.den), v.exp, want)
	if errno != api.OK {
		t.Errorf("format %d, direction %d, sign %v, %v, want %d: %v", number, direction, sign, v, want, errno)
	}
	if _, errno := decimal.Pack(number, d); errno != api.OK {
		t.Errorf("format %d, direction %d, sign %v, %v, want %d: %+v isn't the format's", number, direction, sign, v, want, d)
	}
	return answer{d, flags}
}

// check rounds v in every direction, with both signs, with each exponent wanted, also as each of the other fractions, which all are v.
func (f format) check(t *testing.T, v value, wants []int, ways ...value) {
	t.Helper()
	s := f.spotted(v)
	for _, want := range wants {
		for _, direction := range directions {
			for _, sign := range signs {
				right := s.rounded(direction, sign, want)
				for _, way := range append([]value{v}, ways...) {
					if got := result(t, f.number, direction, sign, way, want); got != right {
						t.Errorf("format %d, direction %d, sign %v, %v, want %d: %+v, not %+v", f.number, direction, sign, way, want, got, right)
					}
				}
			}
		}
	}
}

// some are a few exponents to want, for numbers whose members don't matter.
func (f format) some() []int { return []int{0, f.least, math.MaxInt} }

// about are exponents to want: all about an exponent, as far as members reach and beyond, the bounds, and the ends of int.
func (f format) about(exp int) []int {
	list := []int{math.MinInt, math.MinInt + 1, f.least - 1, f.least, f.least + 1, 0, f.most - 1, f.most, f.most + 1, math.MaxInt - 1, math.MaxInt}
	for more := -f.precision - 2; more <= f.precision+2; more++ {
		list = append(list, exp+more)
	}
	return list
}

// scattered is a word that follows from its seed alone.
func scattered(seed uint64) uint64 {
	seed = (seed + 1) * 0x9e3779b97f4a7c15
	word := (seed ^ seed>>30) * 0xbf58476d1ce4e5b9
	word = (word ^ word>>27) * 0x94d049bb133111eb
	return word ^ word>>31
}

// wide is so many bits that follow from the seed alone, the highest of them 1.
func wide(bits int, seed uint64) *big.Int {
	var list []uint64
	for i := range uint64(bits/64 + 1) {
		list = append(list, scattered(seed<<16+i))
	}
	n := toBig(list)
	n.Mod(n, two(bits-1))
	return n.Or(n, two(bits-1))
}

// digits are so many decimal digits that follow from the seed alone, the first of them not 0.
func digits(count int, seed uint64) *big.Int {
	n := wide(count*4+64, seed)
	n.Mod(n, times(ten(count-1), big.NewInt(9)))
	return n.Add(n, ten(count-1))
}

// each runs a test for every format, all at one time, and beside other tests.
func each(t *testing.T, run func(t *testing.T, f format)) {
	t.Parallel()
	for _, f := range formats {
		t.Run(fmt.Sprint(f.number), func(t *testing.T) {
			t.Parallel()
			run(t, f)
		})
	}
}
