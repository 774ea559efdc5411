package readbin_test

import (
	"fmt"
	"math/big"
	"strconv"
	"strings"
	"testing"

	"caliper/api"
	"caliper/grammar"
	"caliper/readbin"
)

const (
	inexact   = api.Inexact
	underflow = api.Underflow + api.Inexact
	overflow  = api.Overflow + api.Inexact
	billion   = 1000000000
)

// format is what DOC.md says of a binary format, worked out by hand.
type format struct {
	number, width, precision, least, most int
}

var formats = []format{
	{1, 16, 11, -24, 5},
	{2, 16, 8, -133, 120},
	{3, 32, 24, -149, 104},
	{4, 64, 53, -1074, 971},
	{5, 128, 113, -16494, 16271},
	{6, 256, 241, -16622, 16143},
}

var directions = []int{api.Even, api.Away, api.Zero, api.Up, api.Down}

var signs = []bool{false, true}

// decimal is digits times 10^exp, not 0.
type decimal struct {
	digits *big.Int
	exp    int
}

func ten(n int) *big.Int { return new(big.Int).Exp(big.NewInt(10), big.NewInt(int64(n)), nil) }

func two(n int) *big.Int { return new(big.Int).Lsh(big.NewInt(1), uint(n)) }

func plus(n *big.Int, more int64) *big.Int { return new(big.Int).Add(n, big.NewInt(more)) }

// text is a decimal's number as digits and an exponent.
func (d decimal) text() string {
	if d.exp == 0 {
		return d.digits.String()
	}
	return d.digits.String() + "e" + strconv.Itoa(d.exp)
}

// infinity is the pattern of plus infinity.
func (f format) infinity() *big.Int { return new(big.Int).Sub(two(f.width-1), two(f.precision-1)) }

// pattern is the one of coef times 2^exp, which is the format's, or infinity, if it is the number that would follow.
func (f format) pattern(coef *big.Int, exp int) *big.Int {
	return new(big.Int).Add(new(big.Int).Lsh(big.NewInt(int64(exp-f.least)), uint(f.precision-1)), coef)
}

// reading undoes pattern.
func (f format) reading(pattern *big.Int) (coef *big.Int, exp int) {
	field := int(new(big.Int).Rsh(pattern, uint(f.precision-1)).Int64())
	coef = new(big.Int).Mod(pattern, two(f.precision-1))
	if field == 0 {
		return coef, f.least
	}
	return coef.Add(coef, two(f.precision-1)), f.least + field - 1
}

// place is where a number lies: at coef times 2^exp, or so far beyond it that half is -1, 0 or 1, as it holds against the middle to the next one.
type place struct {
	coef  *big.Int
	exp   int
	exact bool
	half  int
	small bool
}

// placed goes by DOC.md's words: q is LEAST, or the number by which the whole part of v / 2^q has P bits.
func (f format) placed(d decimal) place {
	num, den := new(big.Int).Set(d.digits), big.NewInt(1)
	if d.exp < 0 {
		den = ten(-d.exp)
	} else {
		num.Mul(num, ten(d.exp))
	}
	for q := max(f.least, num.BitLen()-den.BitLen()-f.precision-1); ; q++ {
		top, bottom := num, den
		if q < 0 {
			top = new(big.Int).Lsh(num, uint(-q))
		} else {
			bottom = new(big.Int).Lsh(den, uint(q))
		}
		coef, rest := new(big.Int).QuoRem(top, bottom, new(big.Int))
		if coef.BitLen() <= f.precision {
			half := new(big.Int).Lsh(rest, 1).Cmp(bottom)
			return place{coef, q, rest.Sign() == 0, half, coef.BitLen() < f.precision}
		}
	}
}

// outward says whether a direction goes away from 0, whatever lies near.
func outward(direction int, sign bool) bool {
	return direction == api.Up && !sign || direction == api.Down && sign
}

// rounded is the pattern and the flags that a place comes to. It shares no code, and no arithmetic, with the package.
func (f format) rounded(p place, direction int, sign bool) (api.Bits, int) {
	nearest := direction == api.Even || direction == api.Away
	coef, exp := p.coef, p.exp
	if !p.exact && (outward(direction, sign) || nearest && (p.half > 0 || p.half == 0 && (direction == api.Away || coef.Bit(0) == 1))) {
		coef = plus(coef, 1)
	}
	if coef.BitLen() > f.precision {
		coef, exp = two(f.precision-1), exp+1
	}
	switch {
	case exp > f.most && (nearest || outward(direction, sign)):
		return f.signed(f.infinity(), sign), overflow
	case exp > f.most:
		return f.signed(plus(f.infinity(), -1), sign), overflow
	case p.exact:
		return f.signed(f.pattern(coef, exp), sign), 0
	case p.small:
		return f.signed(f.pattern(coef, exp), sign), underflow
	}
	return f.signed(f.pattern(coef, exp), sign), inexact
}

// signed is a pattern with the sign's bit.
func (f format) signed(pattern *big.Int, sign bool) api.Bits {
	if sign {
		pattern = new(big.Int).Or(pattern, two(f.width-1))
	}
	var b api.Bits
	for i := range b {
		b[i] = new(big.Int).Rsh(pattern, uint(64*i)).Uint64()
	}
	return b
}

// check reads a decimal's number in every direction, with both signs, as each of the texts, which all are its number.
func (f format) check(t *testing.T, d decimal, texts ...string) {
	t.Helper()
	p := f.placed(d)
	parts := grammar.Parts{Class: api.Finite, Digits: d.digits.String(), Exp: d.exp}
	for _, direction := range directions {
		for _, sign := range signs {
			want, wantFlags := f.rounded(p, direction, sign)
			for _, s := range append(texts, d.text()) {
				if sign {
					s = "-" + s
				}
				b, flags, errno := readbin.Read(f.number, direction, s)
				if b != want || flags != wantFlags || errno != api.OK {
					t.Errorf("Read(%d, %d, %s): %x %d %d, not %x %d", f.number, direction, brief(s), b, flags, errno, want, wantFlags)
				}
			}
			parts.Sign = sign
			b, flags, errno := readbin.Make(f.number, direction, parts)
			if b != want || flags != wantFlags || errno != api.OK {
				t.Errorf("Make(%d, %d, %s): %x %d %d, not %x %d", f.number, direction, brief(d.text()), b, flags, errno, want, wantFlags)
			}
		}
	}
}

// brief is a text, or, of a long one, how long it is, and its ends.
func brief(s string) string {
	if len(s) <= 60 {
		return strconv.Quote(s)
	}
	return fmt.Sprintf("%d bytes %q..%q", len(s), s[:30], s[len(s)-25:])
}

// scattered is a word that follows from its seed alone.
func scattered(seed uint64) uint64 {
	seed = (seed + 1) * 0x9e3779b97f4a7c15
	word := (seed ^ seed>>30) * 0xbf58476d1ce4e5b9
	word = (word ^ word>>27) * 0x94d049bb133111eb
	return word ^ word>>31
}

// number is so many digits that follow from the seed alone, the first of them not 0.
func number(digits int, seed uint64) *big.Int {
	var s strings.Builder
	for i := range digits {
		s.WriteByte('0' + byte(scattered(seed<<16+uint64(i))%10))
	}
	n, _ := new(big.Int).SetString("1"+s.String()[1:], 10)
	return n.Add(n, new(big.Int).Mul(ten(digits-1), big.NewInt(int64(seed%9))))
}

// patterns are finite ones without sign: all about 0, about the first with an exponent above 0, about the first of the next, about one, and below infinity, and others, even and odd ones.
func (f format) patterns() []*big.Int {
	var list []*big.Int
	one := f.pattern(two(f.precision-1), 1-f.precision)
	for more := range int64(5) {
		list = append(list, big.NewInt(more), plus(f.infinity(), -1-more))
		list = append(list, plus(two(f.precision-1), more-3), plus(two(f.precision), more-3), plus(one, more-3))
	}
	for seed := range uint64(10) {
		list = append(list, new(big.Int).Mod(number(90, seed), f.infinity()), new(big.Int).Mod(number(90, seed), two(f.precision-1)))
		// What lies about one has few enough digits to be written out in every format.
		coef := new(big.Int).Mod(number(80, seed), two(f.precision-1))
		list = append(list, f.pattern(coef.Add(coef, two(f.precision-1)), max(f.least, min(f.most, int(seed)*40-200-f.precision))))
	}
	return list
}

// exactly is coef times 2^exp as a decimal.
func exactly(coef *big.Int, exp int) decimal {
	if exp >= 0 {
		return decimal{new(big.Int).Lsh(coef, uint(exp)), 0}
	}
	return decimal{new(big.Int).Mul(coef, new(big.Int).Exp(big.NewInt(5), big.NewInt(int64(-exp)), nil)), exp}
}

// mostDigits leaves room in a text for a sign and an exponent.
const mostDigits = api.MostText - 30

// nearby is coef times 2^exp, and what lies just below and above it, by one in the last of the more digits. Where no text is long enough for it, it is what lies just below and above it by one in the last place for which there is room.
func nearby(coef *big.Int, exp, more int) []decimal {
	d := exactly(coef, exp)
	if size := len(d.digits.String()); size > mostDigits-more {
		gone := size - mostDigits + more
		cut := new(big.Int).Quo(d.digits, ten(gone))
		return []decimal{{cut, d.exp + gone}, {plus(cut, 1), d.exp + gone}}
	}
	var list []decimal
	longer := new(big.Int).Mul(d.digits, ten(more))
	for _, step := range []int64{-1, 0, 1} {
		if n := plus(longer, step); n.Sign() > 0 {
			list = append(list, decimal{n, d.exp - more})
		}
	}
	return list
}

// beside are the pattern's number, the middle between it and the next one, and what lies just below and above both.
func (f format) beside(pattern *big.Int, more int) []decimal {
	coef, exp := f.reading(pattern)
	twice := new(big.Int).Lsh(coef, 1)
	return append(nearby(twice, exp-1, more), nearby(plus(twice, 1), exp-1, more)...)
}

// ways are other texts of a decimal's number, as long as there is room.
func (d decimal) ways() []string {
	digits := d.digits.String()
	list := []string{
		"0" + digits + "E" + strconv.Itoa(d.exp),
		digits[:1] + "." + digits[1:] + "e" + strconv.Itoa(d.exp+len(digits)-1),
		"." + digits + "e" + strconv.Itoa(d.exp+len(digits)),
		digits + "00.0e" + strconv.Itoa(d.exp-2),
	}
	if bare := strings.TrimRight(digits, "0"); bare != digits {
		list = append(list, bare+"e"+strconv.Itoa(d.exp+len(digits)-len(bare)))
	}
	if d.exp < 0 && d.exp > -1000 {
		padded := strings.Repeat("0", max(0, 1-d.exp-len(digits))) + digits
		list = append(list, padded[:len(padded)+d.exp]+"."+padded[len(padded)+d.exp:])
	}
	if d.exp >= 0 && d.exp < 1000 && len(digits) < 1000 {
		list = append(list, digits+strings.Repeat("0", d.exp), digits+strings.Repeat("0", d.exp)+".")
	}
	return list
}
