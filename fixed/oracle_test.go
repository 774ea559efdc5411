package fixed_test

import (
	"math/big"
	"strconv"
	"strings"
	"testing"

	"caliper/api"
	"caliper/fixed"
)

// format is what DOC.md says of a binary format, worked out by hand.
type format struct {
	number, width, precision, least, most int
}

var formats = []format{
	{1, 16, 11, -24, 5},
	{2, 16, 8, -133, 120},
	{3, 32, 24, -149, 104},
	{4, 64, 53, -1074, 971},
	{5, 128, 113, -16494, 16271},
	{6, 256, 241, -16622, 16143},
}

var directions = []int{api.Even, api.Away, api.Zero, api.Up, api.Down}

var bothSigns = []bool{false, true}

func power(base int64, n int) *big.Int {
	return new(big.Int).Exp(big.NewInt(base), big.NewInt(int64(n)), nil)
}

func two(n int) *big.Int { return new(big.Int).Lsh(big.NewInt(1), uint(n)) }

func plus(n *big.Int, more int64) *big.Int { return new(big.Int).Add(n, big.NewInt(more)) }

// infinity is the pattern of plus infinity.
func (f format) infinity() *big.Int { return new(big.Int).Sub(two(f.width-1), two(f.precision-1)) }

// pattern is the one of coef times 2^exp, which is the format's.
func (f format) pattern(coef *big.Int, exp int) *big.Int {
	return new(big.Int).Add(new(big.Int).Lsh(big.NewInt(int64(exp-f.least)), uint(f.precision-1)), coef)
}

// reading undoes pattern.
func (f format) reading(pattern *big.Int) (coef *big.Int, exp int) {
	field := int(new(big.Int).Rsh(pattern, uint(f.precision-1)).Int64())
	coef = new(big.Int).Mod(pattern, two(f.precision-1))
	if field == 0 {
		return coef, f.least
	}
	return coef.Add(coef, two(f.precision-1)), f.least + field - 1
}

// scaled is the pattern of n times 2^exp, which is the format's and not subnormal, whatever n's length.
func (f format) scaled(n *big.Int, exp int) *big.Int {
	up := f.precision - n.BitLen()
	if up < 0 {
		return f.pattern(new(big.Int).Rsh(n, uint(-up)), exp-up)
	}
	return f.pattern(new(big.Int).Lsh(n, uint(up)), exp-up)
}

// power is the pattern of 2^n, which is the format's.
func (f format) power(n int) *big.Int {
	exp := max(f.least, n-f.precision+1)
	return f.pattern(two(n-exp), exp)
}

// signed is a pattern with the sign's bit.
func (f format) signed(pattern *big.Int, sign bool) api.Bits {
	if sign {
		pattern = new(big.Int).Or(pattern, two(f.width-1))
	}
	var b api.Bits
	for i := range b {
		b[i] = new(big.Int).Rsh(pattern, uint(64*i)).Uint64()
	}
	return b
}

// value is all digits of a number, not 0, without noughts at the end, and the exponent of the first one's place.
type value struct {
	digits string
	place  int
}

// value writes the number out, and shares no arithmetic with the package.
func (f format) value(pattern *big.Int) value {
	coef, exp := f.reading(pattern)
	var text string
	if exp < 0 {
		text = coef.Mul(coef, power(5, -exp)).String()
	} else {
		text = coef.Lsh(coef, uint(exp)).String()
	}
	return value{strings.TrimRight(text, "0"), len(text) - 1 + min(exp, 0)}
}

// exp is the exponent that goes with all digits.
func (v value) exp() int { return v.place + 1 - len(v.digits) }

// text is the value's, rounded to n digits, and whether that isn't the value. It goes by the digits' text alone.
func (v value) text(direction, n int, sign bool) (string, bool) {
	if len(v.digits) <= n {
		return spelled(v.digits+strings.Repeat("0", n-len(v.digits)), v.place, sign), false
	}
	kept, gone := v.digits[:n], v.digits[n:]
	if !farther(direction, sign, kept, gone) {
		return spelled(kept, v.place, sign), true
	}
	short := strings.TrimRight(kept, "9")
	nines := strings.Repeat("0", n-len(short))
	if short == "" {
		return spelled("1"+nines[1:], v.place+1, sign), true
	}
	last := len(short) - 1
	return spelled(short[:last]+string(short[last]+1)+nines, v.place, sign), true
}

// farther says whether a direction goes on from the digits that are kept. As those that are gone don't end in a nought, texts are ordered as their numbers behind a point.
func farther(direction int, sign bool, kept, gone string) bool {
	switch direction {
	case api.Even:
		odd := strings.Contains("13579", kept[len(kept)-1:])
		return gone > "5" || gone == "5" && odd
	case api.Away:
		return gone >= "5"
	case api.Up:
		return !sign
	case api.Down:
		return sign
	}
	return false
}

// spelled goes by the chapter's words.
func spelled(digits string, place int, sign bool) string {
	text := ""
	if sign {
		text = "-"
	}
	text += string(digits[0])
	if len(digits) > 1 {
		text += "." + digits[1:]
	}
	return text + "e" + strconv.Itoa(place)
}

// writes fails unless the text is this one, and it is told so whether it isn't the value.
func (f format) writes(t *testing.T, direction, n int, b api.Bits, want string, more bool) {
	t.Helper()
	text, got, errno := fixed.Write(f.number, direction, n, b)
	if text != want || got != more || errno != api.OK {
		t.Errorf("Write(%d, %d, %d, %x): %s %t %d, not %s %t", f.number, direction, n, b, text, got, errno, want, more)
	}
}

// exactly fails unless these are all digits of a pattern, with both signs.
func (f format) exactly(t *testing.T, pattern *big.Int, want value) {
	t.Helper()
	for _, sign := range bothSigns {
		b := f.signed(pattern, sign)
		digits, exp, errno := fixed.Exact(f.number, b)
		if digits != want.digits || exp != want.exp() || errno != api.OK {
			t.Errorf("Exact(%d, %x): %s %d %d, not %s %d", f.number, b, digits, exp, errno, want.digits, want.exp())
		}
	}
}

// gives fails unless a finite pattern, not 0, is written as the oracle has it, in all directions, with both signs, with these counts of digits. Counts that are none are passed over.
func (f format) gives(t *testing.T, pattern *big.Int, counts ...int) {
	t.Helper()
	v := f.value(pattern)
	f.exactly(t, pattern, v)
	for _, n := range counts {
		if n < 1 || n > api.MostDigits {
			continue
		}
		for _, sign := range bothSigns {
			b := f.signed(pattern, sign)
			for _, direction := range directions {
				want, more := v.text(direction, n, sign)
				f.writes(t, direction, n, b, want, more)
			}
		}
	}
}

// about are counts of digits about as many as the number has, where it is cut in the middle, is just written, and is filled up.
func (f format) about(pattern *big.Int) []int {
	size := len(f.value(pattern).digits)
	return []int{size - 2, size - 1, size, size + 1, size + 2}
}

// scattered is a word that follows from its seed alone.
func scattered(seed uint64) uint64 {
	seed = (seed + 1) * 0x9e3779b97f4a7c15
	word := (seed ^ seed>>30) * 0xbf58476d1ce4e5b9
	word = (word ^ word>>27) * 0x94d049bb133111eb
	return word ^ word>>31
}

// drawn is a number below the bound that follows from the seed alone.
func drawn(seed uint64, bound *big.Int) *big.Int {
	n := new(big.Int)
	for i := range uint64(5) {
		n.Or(n.Lsh(n, 64), new(big.Int).SetUint64(scattered(seed<<8+i)))
	}
	return n.Mod(n, bound)
}

// edges are finite patterns, not 0, without sign: the least ones, those about the greatest subnormal one, about one, and the greatest ones.
func (f format) edges() []*big.Int {
	var list []*big.Int
	for more := range int64(4) {
		list = append(list, big.NewInt(1+more), plus(f.infinity(), -1-more))
		list = append(list, plus(two(f.precision-1), more-2), plus(f.power(0), more-2))
	}
	return list
}

// many are so many drawn patterns of each kind: of all finite ones, of subnormal ones, of those about one, and of those with few bits.
func (f format) many(count uint64) []*big.Int {
	var list []*big.Int
	for seed := range count {
		list = append(list, plus(drawn(4*seed, plus(f.infinity(), -1)), 1))
		list = append(list, plus(drawn(4*seed+1, plus(two(f.precision-1), -1)), 1))
		near := f.power(int(scattered(seed)%20) - 10)
		list = append(list, near.Add(near, drawn(4*seed+2, two(f.precision-1))))
		few := new(big.Int).Lsh(drawn(4*seed+3, two(5)), uint(f.precision-6))
		list = append(list, few.Add(few, f.power(f.least+f.precision+int(scattered(seed)%uint64(f.most-f.least)))))
	}
	return list
}
