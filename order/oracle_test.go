package order_test

import (
	"cmp"
	"fmt"
	"math/big"
	"strconv"
	"strings"
	"testing"

	"caliper/api"
)

// format is what DOC.md and the chapter of layer 14 say of a format, worked out by hand. The last five are those of decimal ones.
type format struct {
	number, base, width, precision, least, most int
	twin, g, t, declets                         int
	dense                                       bool
}

var formats = []format{
	{1, 2, 16, 11, -24, 5, 0, 0, 0, 0, false},
	{2, 2, 16, 8, -133, 120, 0, 0, 0, 0, false},
	{3, 2, 32, 24, -149, 104, 0, 0, 0, 0, false},
	{4, 2, 64, 53, -1074, 971, 0, 0, 0, 0, false},
	{5, 2, 128, 113, -16494, 16271, 0, 0, 0, 0, false},
	{6, 2, 256, 241, -16622, 16143, 0, 0, 0, 0, false},
	{7, 10, 32, 7, -101, 90, 10, 11, 20, 2, false},
	{8, 10, 64, 16, -398, 369, 11, 13, 50, 5, false},
	{9, 10, 128, 34, -6176, 6111, 12, 17, 110, 11, false},
	{10, 10, 32, 7, -101, 90, 7, 11, 20, 2, true},
	{11, 10, 64, 16, -398, 369, 8, 13, 50, 5, true},
	{12, 10, 128, 34, -6176, 6111, 9, 17, 110, 11, true},
}

var (
	binaries = formats[:6]
	decimals = formats[6:]
	signs    = []bool{false, true}
	nothing  api.Bits
)

// numbered is the format of a number.
func numbered(number int) format { return formats[number-1] }

// each runs a test for every format of a list, all at one time, and beside other tests.
func each(t *testing.T, list []format, run func(t *testing.T, f format)) {
	t.Parallel()
	for _, f := range list {
		t.Run(strconv.Itoa(f.number), func(t *testing.T) {
			t.Parallel()
			run(t, f)
		})
	}
}

// toBig brings math/big in as the oracle: it shares no code with the package, nor with the layers ahead of it.
func toBig(b api.Bits) *big.Int {
	sum := new(big.Int)
	for i := len(b) - 1; i >= 0; i-- {
		sum.Or(sum.Lsh(sum, 64), new(big.Int).SetUint64(b[i]))
	}
	return sum
}

func toBits(n *big.Int) api.Bits {
	var b api.Bits
	for i := range b {
		b[i] = new(big.Int).Rsh(n, uint(64*i)).Uint64()
	}
	return b
}

func power(base, n int) *big.Int {
	return new(big.Int).Exp(big.NewInt(int64(base)), big.NewInt(int64(n)), nil)
}

func two(n int) *big.Int { return new(big.Int).Lsh(big.NewInt(1), uint(n)) }

func ten(n int) *big.Int { return power(10, n) }

func plus(n *big.Int, more int64) *big.Int { return new(big.Int).Add(n, big.NewInt(more)) }

func times(a, b *big.Int) *big.Int { return new(big.Int).Mul(a, b) }

func noughts(n int) string { return strings.Repeat("0", n) }

// parsed is a number by its text.
func parsed(text string, base int) *big.Int {
	n, ok := new(big.Int).SetString(text, base)
	if !ok {
		panic("no number: " + text)
	}
	return n
}

// small is a short text of bits as a number.
func small(bits string) int { return int(parsed(bits, 2).Int64()) }

// meaning is what a pattern means. A finite number is 0.digits times 10^top, its digits without noughts at the end (none of 0), so that texts of digits lie in the order of the numbers. The exponent is that of decimal patterns alone.
type meaning struct {
	class, top, exp int
	sign, signal    bool
	digits          string
	payload         *big.Int
}

// of is what a pattern means.
func (f format) of(b api.Bits) meaning {
	if f.base == 2 {
		return f.binary(toBig(b))
	}
	return f.decimal(fmt.Sprintf("%0*b", f.width, toBig(b)))
}

// placed is the meaning of coef times 10^exp.
func placed(sign bool, coef *big.Int, exp int) meaning {
	text := coef.String()
	m := meaning{class: api.Finite, sign: sign, digits: strings.TrimRight(text, "0")}
	if m.digits != "" {
		m.top = len(text) + exp
	}
	return m
}

// binary goes by the words of layer 5's chapter. Twos below the line are fives above it, and tens below.
func (f format) binary(pattern *big.Int) meaning {
	sign := pattern.Bit(f.width-1) == 1
	pattern = new(big.Int).SetBit(pattern, f.width-1, 0)
	switch order := pattern.Cmp(f.top()); {
	case order == 0:
		return meaning{class: api.Infinite, sign: sign}
	case order > 0:
		payload := new(big.Int).Mod(pattern, two(f.precision-2))
		return meaning{class: api.NaN, sign: sign, signal: pattern.Bit(f.precision-2) == 0, payload: payload}
	}
	coef, exp := f.reading(pattern)
	coef = times(coef, power(5, max(-exp, 0)))
	return placed(sign, coef.Lsh(coef, uint(max(exp, 0))), min(exp, 0))
}

// top is the pattern of a binary format's plus infinity.
func (f format) top() *big.Int { return new(big.Int).Sub(two(f.width-1), two(f.precision-1)) }

// reading is the coefficient and the exponent of a finite binary pattern without sign.
func (f format) reading(pattern *big.Int) (coef *big.Int, exp int) {
	field := int(new(big.Int).Rsh(pattern, uint(f.precision-1)).Int64())
	coef = new(big.Int).Mod(pattern, two(f.precision-1))
	if field == 0 {
		return coef, f.least
	}
	return coef.Add(coef, two(f.precision-1)), f.least + field - 1
}

// decimal goes by the words of layer 14's chapter over the pattern's bits as a text.
func (f format) decimal(text string) meaning {
	g, t := text[1:1+f.g], text[1+f.g:]
	m := meaning{class: api.Infinite, sign: text[0] == '1'}
	switch {
	case strings.HasPrefix(g, "11110"):
		return m
	case strings.HasPrefix(g, "11111"):
		m.class, m.signal = api.NaN, g[5] == '1'
		m.payload = f.tail("", t, f.precision-1)
		return m
	}
	field, lead := f.field(g)
	exp := small(field) + f.least
	m = placed(m.sign, f.tail(lead, t, f.precision), exp)
	m.exp = exp
	return m
}

// field is a finite number's exponent field as bits, and what stands ahead of T: bits of a plain pattern, a digit of a dense one.
func (f format) field(g string) (field, lead string) {
	last := len(g) - 1
	switch {
	case !f.dense && g[:2] != "11":
		return g[:len(g)-3], g[len(g)-3:]
	case !f.dense:
		return g[2:last], "100" + g[last:]
	case g[:2] != "11":
		return g[:2] + g[5:], strconv.Itoa(small(g[2:5]))
	case g[4] == '1':
		return g[2:4] + g[5:], "9"
	}
	return g[2:4] + g[5:], "8"
}

// tail is what T means behind a lead: 0, if that has more digits than there is room for.
func (f format) tail(lead, t string, digits int) *big.Int {
	n := new(big.Int)
	if !f.dense {
		n = parsed("0"+lead+t, 2)
	} else {
		for ; t != ""; t = t[10:] {
			lead += fmt.Sprintf("%03d", declets[t[:10]])
		}
		n = parsed(lead, 10)
	}
	if n.Cmp(ten(digits)) >= 0 {
		return new(big.Int)
	}
	return n
}

// written is the declet of a number of three digits by equations of bits, another way than the table of layer 13.
func written(n int) string {
	bit := func(digit, place int) int { return digit >> place & 1 }
	x, y, z := n/100, n/10%10, n%10
	a, b, c, d := bit(x, 3), bit(x, 2), bit(x, 1), bit(x, 0)
	e, f, g, h := bit(y, 3), bit(y, 2), bit(y, 1), bit(y, 0)
	i, j, k, m := bit(z, 3), bit(z, 2), bit(z, 1), bit(z, 0)
	return strings.ReplaceAll(fmt.Sprint(
		b|a&j|a&f&i, c|a&k|a&g&i, d,
		f&(1-a&i)|(1-a)&e&j|e&i, g|(1-a)&e&k|a&i, h,
		a|e|i, a|e&i|(1-e)&j, e|a&i|(1-a)&k, m,
	), " ", "")
}

// declets are the numbers that ten bits mean, and others those bits that are the declet of none.
var declets, others = allDeclets()

func allDeclets() (map[string]int, []string) {
	all, rest := map[string]int{}, []string(nil)
	for n := range 1000 {
		all[written(n)] = n
	}
	for d := range 1024 {
		text := fmt.Sprintf("%010b", d)
		if _, ok := all[text]; !ok {
			// Of the others the two highest bits mean nothing.
			all[text] = all["00"+text[2:]]
			rest = append(rest, text)
		}
	}
	return all, rest
}

// side is -1, 0 or 1: where what is no NaN lies, seen from 0.
func (m meaning) side() int {
	switch {
	case m.class == api.Finite && m.digits == "":
		return 0
	case m.sign:
		return -1
	}
	return 1
}

// byValue is what Compare and Mixed answer.
func byValue(a, b meaning) (int, bool) {
	if a.class == api.NaN || b.class == api.NaN {
		return 0, false
	}
	side := a.side()
	if side != b.side() || side == 0 {
		return cmp.Compare(side, b.side()), true
	}
	return side * cmp.Or(cmp.Compare(a.class, b.class), cmp.Compare(a.top, b.top), strings.Compare(a.digits, b.digits)), true
}

// band is which of six bands of the order of data something lies in: 3 and -3 hold the NaNs that don't signal, 2 and -2 those that do, 1 and -1 all else, -0 with what has the sign.
func (m meaning) band() int {
	band := 1
	if m.class == api.NaN {
		band = 3
	}
	if m.signal {
		band = 2
	}
	if m.sign {
		return -band
	}
	return band
}

// byData is what Total answers.
func byData(a, b meaning) int {
	if a.band() != b.band() {
		return cmp.Compare(a.band(), b.band())
	}
	outward := 0
	if a.class == api.NaN {
		outward = a.payload.Cmp(b.payload)
	} else if order, _ := byValue(a, b); order != 0 {
		return order
	} else {
		outward = cmp.Compare(a.exp, b.exp)
	}
	if a.sign {
		return -outward
	}
	return outward
}

// next is the pattern of a binary number's neighbour that lies farther from 0: by its coefficient and exponent, not by its pattern.
func (f format) next(pattern *big.Int) *big.Int {
	if pattern.Cmp(f.top()) == 0 {
		return pattern
	}
	coef, exp := f.reading(pattern)
	if coef = plus(coef, 1); coef.BitLen() > f.precision {
		coef, exp = two(f.precision-1), exp+1
	}
	if exp > f.most {
		return f.top()
	}
	return f.laid(coef, exp)
}

// last is the pattern of the neighbour of a binary number, not 0, that lies nearer to 0.
func (f format) last(pattern *big.Int) *big.Int {
	if pattern.Cmp(f.top()) == 0 {
		return f.laid(plus(two(f.precision), -1), f.most)
	}
	coef, exp := f.reading(pattern)
	if coef = plus(coef, -1); coef.BitLen() < f.precision && exp > f.least {
		coef, exp = plus(two(f.precision), -1), exp-1
	}
	return f.laid(coef, exp)
}

// laid is the pattern of coef times 2^exp, which is the binary format's.
func (f format) laid(coef *big.Int, exp int) *big.Int {
	return new(big.Int).Add(new(big.Int).Lsh(big.NewInt(int64(exp-f.least)), uint(f.precision-1)), coef)
}

// neighbour is what Next answers of a binary pattern.
func (f format) neighbour(b api.Bits, up bool) (api.Bits, int) {
	pattern := toBig(b)
	m := f.binary(pattern)
	size := new(big.Int).SetBit(pattern, f.width-1, 0)
	switch {
	case m.signal:
		return toBits(new(big.Int).SetBit(pattern, f.precision-2, 1)), api.Invalid
	case m.class == api.NaN:
		return b, 0
	case m.side() == 0:
		return f.signed(big.NewInt(1), !up), 0
	case up != m.sign:
		return f.signed(f.next(size), m.sign), 0
	}
	return f.signed(f.last(size), m.sign), 0
}

// signed is a pattern, that has no sign, with one or without.
func (f format) signed(pattern *big.Int, sign bool) api.Bits {
	if sign {
		pattern = new(big.Int).Or(pattern, two(f.width-1))
	}
	return toBits(pattern)
}

// negated is a pattern with its highest bit turned.
func (f format) negated(b api.Bits) api.Bits {
	b[(f.width-1)/64] ^= 1 << ((f.width - 1) % 64)
	return b
}

// with is a pattern with more bits set.
func with(b api.Bits, more *big.Int) api.Bits {
	return toBits(new(big.Int).Or(toBig(b), more))
}

// scattered is a number of 256 bits that follows from its seed alone.
func scattered(seed uint64) *big.Int {
	var b api.Bits
	seed *= uint64(len(b))
	for i := range b {
		word := (seed + uint64(i) + 1) * 0x9e3779b97f4a7c15
		word = (word ^ word>>30) * 0xbf58476d1ce4e5b9
		word = (word ^ word>>27) * 0x94d049bb133111eb
		b[i] = word ^ word>>31
	}
	return toBig(b)
}

// drawn is a pattern that follows from the seed alone. Of three seeds out of four some of the highest bits behind the sign are set, so that there are enough of great numbers and of what isn't finite.
func (f format) drawn(seed uint64) api.Bits {
	draw := new(big.Int).Rsh(scattered(seed), uint(256-f.width))
	ones := []int{0, 2, 4, 5}[seed%4]
	if f.base == 2 && ones == 5 {
		ones = f.width - f.precision
	}
	for place := range ones {
		draw.SetBit(draw, f.width-2-place, 1)
	}
	return toBits(draw)
}

// among is a number from the least one on, below the bound, that follows from the seed alone.
func among(seed uint64, least, bound *big.Int) *big.Int {
	n := new(big.Int).Mod(scattered(seed), new(big.Int).Sub(bound, least))
	return n.Add(n, least)
}
