package shortest_test

import (
	"math/big"
	"strconv"
	"strings"
	"testing"

	"caliper/api"
	"caliper/readbin"
	"caliper/shortest"
)

// format is what DOC.md says of a binary format, worked out by hand.
type format struct {
	number, width, precision, least, most int
}

var formats = []format{
	{1, 16, 11, -24, 5},
	{2, 16, 8, -133, 120},
	{3, 32, 24, -149, 104},
	{4, 64, 53, -1074, 971},
	{5, 128, 113, -16494, 16271},
	{6, 256, 241, -16622, 16143},
}

func ten(n int) *big.Int { return new(big.Int).Exp(big.NewInt(10), big.NewInt(int64(n)), nil) }

func two(n int) *big.Int { return new(big.Int).Lsh(big.NewInt(1), uint(n)) }

func plus(n *big.Int, more int64) *big.Int { return new(big.Int).Add(n, big.NewInt(more)) }

// infinity is the pattern of plus infinity.
func (f format) infinity() *big.Int { return new(big.Int).Sub(two(f.width-1), two(f.precision-1)) }

// pattern is the one of coef times 2^exp, which is the format's.
func (f format) pattern(coef *big.Int, exp int) *big.Int {
	return new(big.Int).Add(new(big.Int).Lsh(big.NewInt(int64(exp-f.least)), uint(f.precision-1)), coef)
}

// reading undoes pattern; of infinity it is the number that would follow the greatest one.
func (f format) reading(pattern *big.Int) (coef *big.Int, exp int) {
	field := int(new(big.Int).Rsh(pattern, uint(f.precision-1)).Int64())
	coef = new(big.Int).Mod(pattern, two(f.precision-1))
	if field == 0 {
		return coef, f.least
	}
	return coef.Add(coef, two(f.precision-1)), f.least + field - 1
}

// power is the pattern of 2^n, which is the format's.
func (f format) power(n int) *big.Int {
	exp := max(f.least, n-f.precision+1)
	return f.pattern(two(n-exp), exp)
}

// signed is a pattern with the sign's bit.
func (f format) signed(pattern *big.Int, sign bool) api.Bits {
	if sign {
		pattern = new(big.Int).Or(pattern, two(f.width-1))
	}
	var b api.Bits
	for i := range b {
		b[i] = new(big.Int).Rsh(pattern, uint(64*i)).Uint64()
	}
	return b
}

// written is coef times 2^exp written out to so many places behind the point, and without it.
func written(coef *big.Int, exp, places int) *big.Int {
	if exp >= 0 {
		n := new(big.Int).Lsh(coef, uint(exp))
		return n.Mul(n, ten(places))
	}
	n := new(big.Int).Mul(coef, new(big.Int).Exp(big.NewInt(5), big.NewInt(int64(-exp)), nil))
	return n.Mul(n, ten(places+exp))
}

// span is a number and the middles between it and its neighbours, all written out to as many places.
type span struct {
	low, number, high *big.Int
	places            int
	even              bool
}

func (f format) span(pattern *big.Int) span {
	coef, exp := f.reading(pattern)
	places := max(0, 2-exp)
	at := func(pattern *big.Int) *big.Int {
		coef, exp := f.reading(pattern)
		return written(coef, exp, places)
	}
	middle := func(a, b *big.Int) *big.Int {
		sum := new(big.Int).Add(a, b)
		return sum.Rsh(sum, 1)
	}
	number := at(pattern)
	return span{
		low:    middle(at(plus(pattern, -1)), number),
		number: number,
		high:   middle(number, at(plus(pattern, 1))),
		places: places,
		even:   coef.Bit(0) == 0,
	}
}

// holds says whether what is read to the nearest as the number has this one in it.
func (s span) holds(n *big.Int) bool {
	below, above := n.Cmp(s.low), n.Cmp(s.high)
	return below > 0 && above < 0 || s.even && (below == 0 || above == 0)
}

// choose is the one of two numbers about the span's that is within it and is the nearer one, or is even; nil if none is within it.
func (s span) choose(below, above, unit *big.Int) *big.Int {
	switch down, up := s.holds(below), s.holds(above); {
	case down && up:
		far := new(big.Int).Add(below, above)
		order := far.Cmp(new(big.Int).Lsh(s.number, 1))
		if order > 0 || order == 0 && new(big.Int).Quo(below, unit).Bit(0) == 0 {
			return below
		}
		return above
	case down:
		return below
	case up:
		return above
	}
	return nil
}

// answer is D and E.
type answer struct {
	digits string
	exp    int
}

// place is the exponent of the first digit's place.
func (a answer) place() int { return a.exp + len(a.digits) - 1 }

// text goes by the chapter's words.
func (a answer) text() string {
	text := a.digits[:1]
	if len(a.digits) > 1 {
		text += "." + a.digits[1:]
	}
	return text + "e" + strconv.Itoa(a.place())
}

// bare is digits times 10^exp without noughts at the end.
func bare(digits string, exp int) answer {
	short := strings.TrimRight(digits, "0")
	return answer{short, exp + len(digits) - len(short)}
}

// shortest cuts the number, written out, behind ever more digits, until it or the next number of as many is read as the number. It shares no code, and no arithmetic, with the package.
func (f format) shortest(pattern *big.Int) answer {
	s := f.span(pattern)
	digits := s.number.String()
	for size := 1; ; size++ {
		unit := ten(len(digits) - size)
		below, _ := new(big.Int).SetString(digits[:size], 10)
		above := plus(below, 1)
		if n := s.choose(below.Mul(below, unit), above.Mul(above, unit), unit); n != nil {
			return bare(n.String(), -s.places)
		}
	}
}

// gives fails unless Digits and Write answer this of a finite pattern, with both signs, and it is read back.
func (f format) gives(t *testing.T, pattern *big.Int, want answer) {
	t.Helper()
	for _, sign := range []bool{false, true} {
		b := f.signed(pattern, sign)
		digits, exp, errno := shortest.Digits(f.number, b)
		if digits != want.digits || exp != want.exp || errno != api.OK {
			t.Errorf("Digits(%d, %x): %s %d %d, not %s %d", f.number, b, digits, exp, errno, want.digits, want.exp)
		}
		text := want.text()
		if sign {
			text = "-" + text
		}
		f.writes(t, b, text)
		f.back(t, pattern, sign, want)
	}
}

// writes fails unless the text is this one.
func (f format) writes(t *testing.T, b api.Bits, want string) {
	t.Helper()
	if text, errno := shortest.Write(f.number, b); text != want || errno != api.OK {
		t.Errorf("Write(%d, %x): %s %d, not %s", f.number, b, text, errno, want)
	}
}

// back fails unless the text of a finite number is read as the same pattern, with just the flags that go with its digits.
func (f format) back(t *testing.T, pattern *big.Int, sign bool, a answer) {
	t.Helper()
	b := f.signed(pattern, sign)
	text, _ := shortest.Write(f.number, b)
	got, flags, errno := readbin.Read(f.number, api.Even, text)
	if want := f.flags(pattern, a); got != b || flags != want || errno != api.OK {
		t.Errorf("Write(%d, %x), %s, is read as %x %d %d, not with the flags %d", f.number, b, text, got, flags, errno, want)
	}
}

// flags are those of a decimal number that is read as the pattern: none, if it is its number; Underflow, if it lies below the numbers with an exponent above 0.
func (f format) flags(pattern *big.Int, a answer) int {
	coef, exp := f.reading(pattern)
	places := max(0, -exp, -a.exp)
	digits, _ := new(big.Int).SetString(a.digits, 10)
	number := digits.Mul(digits, ten(a.exp+places))
	if number.Cmp(written(coef, exp, places)) == 0 {
		return 0
	}
	places = max(places, -f.least)
	digits, _ = new(big.Int).SetString(a.digits, 10)
	if digits.Mul(digits, ten(a.exp+places)).Cmp(written(two(f.precision-1), f.least, places)) < 0 {
		return api.Underflow + api.Inexact
	}
	return api.Inexact
}

// scattered is a word that follows from its seed alone.
func scattered(seed uint64) uint64 {
	seed = (seed + 1) * 0x9e3779b97f4a7c15
	word := (seed ^ seed>>30) * 0xbf58476d1ce4e5b9
	word = (word ^ word>>27) * 0x94d049bb133111eb
	return word ^ word>>31
}

// drawn is a number below the bound that follows from the seed alone.
func drawn(seed uint64, bound *big.Int) *big.Int {
	n := new(big.Int)
	for i := range uint64(5) {
		n.Or(n.Lsh(n, 64), new(big.Int).SetUint64(scattered(seed<<8+i)))
	}
	return n.Mod(n, bound)
}

// edges are finite patterns, not 0, without sign: the least ones, those about the greatest subnormal one, about the next power of two, about one, and the greatest ones.
func (f format) edges() []*big.Int {
	var list []*big.Int
	for more := range int64(12) {
		list = append(list, big.NewInt(1+more), plus(f.infinity(), -1-more))
	}
	for more := range int64(9) {
		for _, at := range []*big.Int{two(f.precision - 1), two(f.precision), f.power(0), f.power(1)} {
			list = append(list, plus(at, more-4))
		}
	}
	return list
}

// many are so many drawn patterns: of all finite ones, of subnormal ones, of those about one, and of those with few bits.
func (f format) many(count uint64) []*big.Int {
	var list []*big.Int
	for seed := range count {
		list = append(list, plus(drawn(4*seed, plus(f.infinity(), -1)), 1))
		list = append(list, plus(drawn(4*seed+1, plus(two(f.precision-1), -1)), 1))
		near := f.power(int(scattered(seed)%20) - 10)
		list = append(list, near.Add(near, drawn(4*seed+2, two(f.precision-1))))
		few := new(big.Int).Lsh(drawn(4*seed+3, two(5)), uint(f.precision-6))
		list = append(list, few.Add(few, f.power(f.least+f.precision+int(scattered(seed)%uint64(f.most-f.least)))))
	}
	return list
}
