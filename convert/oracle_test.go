package convert_test

import (
	"fmt"
	"math/big"
	"strconv"
	"strings"
	"testing"

	"caliper/api"
)

const (
	invalid   = api.Invalid
	inexact   = api.Inexact
	underflow = api.Underflow + api.Inexact
	overflow  = api.Overflow + api.Inexact
)

// format is what DOC.md and the chapter of layer 14 say of a format, worked out by hand. The last five are those of decimal ones.
type format struct {
	number, base, width, precision, least, most int
	twin, g, t, declets                         int
	dense                                       bool
}

var formats = []format{
	{1, 2, 16, 11, -24, 5, 0, 0, 0, 0, false},
	{2, 2, 16, 8, -133, 120, 0, 0, 0, 0, false},
	{3, 2, 32, 24, -149, 104, 0, 0, 0, 0, false},
	{4, 2, 64, 53, -1074, 971, 0, 0, 0, 0, false},
	{5, 2, 128, 113, -16494, 16271, 0, 0, 0, 0, false},
	{6, 2, 256, 241, -16622, 16143, 0, 0, 0, 0, false},
	{7, 10, 32, 7, -101, 90, 10, 11, 20, 2, false},
	{8, 10, 64, 16, -398, 369, 11, 13, 50, 5, false},
	{9, 10, 128, 34, -6176, 6111, 12, 17, 110, 11, false},
	{10, 10, 32, 7, -101, 90, 7, 11, 20, 2, true},
	{11, 10, 64, 16, -398, 369, 8, 13, 50, 5, true},
	{12, 10, 128, 34, -6176, 6111, 9, 17, 110, 11, true},
}

var (
	binaries   = formats[:6]
	decimals   = formats[6:]
	directions = []int{api.Even, api.Away, api.Zero, api.Up, api.Down}
	signs      = []bool{false, true}
	nothing    api.Bits
)

// numbered is the format of a number.
func numbered(number int) format { return formats[number-1] }

// each runs a test for every format of a list, all at one time, and beside other tests.
func each(t *testing.T, list []format, run func(t *testing.T, f format)) {
	t.Parallel()
	for _, f := range list {
		t.Run(strconv.Itoa(f.number), func(t *testing.T) {
			t.Parallel()
			run(t, f)
		})
	}
}

// toBig brings math/big in as the oracle: it shares no code with the package, nor with the layers ahead of it.
func toBig(b api.Bits) *big.Int {
	sum := new(big.Int)
	for i := len(b) - 1; i >= 0; i-- {
		sum.Or(sum.Lsh(sum, 64), new(big.Int).SetUint64(b[i]))
	}
	return sum
}

func toBits(n *big.Int) api.Bits {
	var b api.Bits
	for i := range b {
		b[i] = new(big.Int).Rsh(n, uint(64*i)).Uint64()
	}
	return b
}

func power(base, n int) *big.Int {
	if base == 2 {
		return two(n)
	}
	return new(big.Int).Exp(big.NewInt(int64(base)), big.NewInt(int64(n)), nil)
}

func two(n int) *big.Int { return new(big.Int).Lsh(big.NewInt(1), uint(n)) }

func ten(n int) *big.Int { return power(10, n) }

func plus(n *big.Int, more int64) *big.Int { return new(big.Int).Add(n, big.NewInt(more)) }

func times(a, b *big.Int) *big.Int { return new(big.Int).Mul(a, b) }

func noughts(n int) string { return strings.Repeat("0", n) }

func nines(n int) string { return strings.Repeat("9", n) }

// parsed is a number by its text.
func parsed(text string, base int) *big.Int {
	n, ok := new(big.Int).SetString(text, base)
	if !ok {
		panic("no number: " + text)
	}
	return n
}

// small is a short text of bits as a number.
func small(bits string) int { return int(parsed(bits, 2).Int64()) }

// meaning is what a pattern, or a text, means: of a finite number coef times base^exp, of a NaN coef is the payload.
type meaning struct {
	class        int
	sign, signal bool
	coef         *big.Int
	base, exp    int
}

// of is what a pattern means.
func (f format) of(b api.Bits) meaning {
	if f.base == 2 {
		return f.binary(toBig(b))
	}
	return f.decimal(fmt.Sprintf("%0*b", f.width, toBig(b)))
}

// binary goes by the words of layer 5's chapter.
func (f format) binary(pattern *big.Int) meaning {
	m := meaning{class: api.Infinite, sign: pattern.Bit(f.width-1) == 1, base: 2}
	pattern = new(big.Int).SetBit(pattern, f.width-1, 0)
	switch order := pattern.Cmp(f.top()); {
	case order == 0:
		return m
	case order > 0:
		m.class, m.signal = api.NaN, pattern.Bit(f.precision-2) == 0
		m.coef = new(big.Int).Mod(pattern, two(f.precision-2))
		return m
	}
	m.class = api.Finite
	m.coef, m.exp = f.reading(pattern)
	return m
}

// top is the pattern of a binary format's plus infinity.
func (f format) top() *big.Int { return new(big.Int).Sub(two(f.width-1), two(f.precision-1)) }

// reading is the coefficient and the exponent of a finite binary pattern without sign.
func (f format) reading(pattern *big.Int) (coef *big.Int, exp int) {
	field := int(new(big.Int).Rsh(pattern, uint(f.precision-1)).Int64())
	coef = new(big.Int).Mod(pattern, two(f.precision-1))
	if field == 0 {
		return coef, f.least
	}
	return coef.Add(coef, two(f.precision-1)), f.least + field - 1
}

// decimal goes by the words of layer 14's chapter over the pattern's bits as a text.
func (f format) decimal(text string) meaning {
	g, t := text[1:1+f.g], text[1+f.g:]
	m := meaning{class: api.Infinite, sign: text[0] == '1', base: 10}
	switch {
	case strings.HasPrefix(g, "11110"):
		return m
	case strings.HasPrefix(g, "11111"):
		m.class, m.signal = api.NaN, g[5] == '1'
		m.coef = f.tail("", t, f.precision-1)
		return m
	}
	field, lead := f.field(g)
	m.class = api.Finite
	m.coef, m.exp = f.tail(lead, t, f.precision), small(field)+f.least
	return m
}

// field is a finite number's exponent field as bits, and what stands ahead of T: bits of a plain pattern, a digit of a dense one.
func (f format) field(g string) (field, lead string) {
	last := len(g) - 1
	switch {
	case !f.dense && g[:2] != "11":
		return g[:len(g)-3], g[len(g)-3:]
	case !f.dense:
		return g[2:last], "100" + g[last:]
	case g[:2] != "11":
		return g[:2] + g[5:], strconv.Itoa(small(g[2:5]))
	case g[4] == '1':
		return g[2:4] + g[5:], "9"
	}
	return g[2:4] + g[5:], "8"
}

// tail is what T means behind a lead: 0, if that has more digits than there is room for.
func (f format) tail(lead, t string, digits int) *big.Int {
	n := new(big.Int)
	if !f.dense {
		n = parsed("0"+lead+t, 2)
	} else {
		for ; t != ""; t = t[10:] {
			lead += fmt.Sprintf("%03d", declets[t[:10]])
		}
		n = parsed(lead, 10)
	}
	if n.Cmp(ten(digits)) >= 0 {
		return new(big.Int)
	}
	return n
}

// written is the declet of a number of three digits by equations of bits, another way than the table of layer 13.
func written(n int) string {
	bit := func(digit, place int) int { return digit >> place & 1 }
	x, y, z := n/100, n/10%10, n%10
	a, b, c, d := bit(x, 3), bit(x, 2), bit(x, 1), bit(x, 0)
	e, f, g, h := bit(y, 3), bit(y, 2), bit(y, 1), bit(y, 0)
	i, j, k, m := bit(z, 3), bit(z, 2), bit(z, 1), bit(z, 0)
	return strings.ReplaceAll(fmt.Sprint(
		b|a&j|a&f&i, c|a&k|a&g&i, d,
		f&(1-a&i)|(1-a)&e&j|e&i, g|(1-a)&e&k|a&i, h,
		a|e|i, a|e&i|(1-e)&j, e|a&i|(1-a)&k, m,
	), " ", "")
}

// declets are the numbers that ten bits mean, and others those bits that are the declet of none.
var declets, others = allDeclets()

func allDeclets() (map[string]int, []string) {
	all, rest := map[string]int{}, []string(nil)
	for n := range 1000 {
		all[written(n)] = n
	}
	for d := range 1024 {
		text := fmt.Sprintf("%010b", d)
		if _, ok := all[text]; !ok {
			// Of the others the two highest bits mean nothing.
			all[text] = all["00"+text[2:]]
			rest = append(rest, text)
		}
	}
	return all, rest
}

// spot is where a number lies among those of a format: at low times its base^exp, or between that and the next one; half is how it holds there against the middle.
type spot struct {
	low   *big.Int
	exp   int
	exact bool
	half  int
}

// parts is a number, in parts of the format's base^q: the whole ones, the rest, and what makes a part.
func (g format) parts(m meaning, q int) (whole, rest, unit *big.Int) {
	num, unit := m.coef, big.NewInt(1)
	factor := func(base, n int) {
		if n < 0 {
			unit = times(unit, power(base, -n))
		} else {
			num = times(num, power(base, n))
		}
	}
	if m.base == g.base {
		factor(g.base, m.exp-q)
	} else {
		factor(m.base, m.exp)
		factor(g.base, -q)
	}
	whole, rest = new(big.Int).DivMod(num, unit, new(big.Int))
	return whole, rest, unit
}

// spot is where a number that isn't 0 lies. It goes by DOC.md's words: q is LEAST, or the number with which the whole parts have P digits.
func (g format) spot(m meaning) spot {
	// A bit is 0.30103 digits, a digit is 3.32193 bits: this is at most that number, and hardly less.
	size := float64(m.coef.BitLen() - 1)
	switch {
	case m.base == 2 && g.base == 10:
		size = (size + float64(m.exp)) * 0.30102999566398
	case m.base == 2:
		size += float64(m.exp)
	case g.base == 2:
		size += float64(m.exp) * 3.32192809488736
	default:
		size = size*0.30102999566398 + float64(m.exp)
	}
	q := max(g.least, int(size)-g.precision-1)
	whole, rest, unit := g.parts(m, q)
	for whole.Cmp(power(g.base, g.precision)) >= 0 {
		q++
		whole, rest, unit = g.parts(m, q)
	}
	return spot{whole, q, rest.Sign() == 0, new(big.Int).Lsh(rest, 1).Cmp(unit)}
}

// outward says whether a direction goes away from 0, whatever lies near.
func outward(direction int, sign bool) bool {
	return direction == api.Up && !sign || direction == api.Down && sign
}

// farther says whether the number behind a spot is taken.
func (s spot) farther(direction int, sign bool) bool {
	switch direction {
	case api.Even:
		return s.half > 0 || s.half == 0 && s.low.Bit(0) == 1
	case api.Away:
		return s.half >= 0
	}
	return outward(direction, sign)
}

// member is the one of a cohort whose exponent is nearest to the wanted one: every exponent is tried that there is room for.
func (g format) member(coef *big.Int, exp, want int) (*big.Int, int) {
	bare := strings.TrimRight(coef.String(), "0")
	exp += len(coef.String()) - len(bare)
	best, found := 0, false
	for n := exp; n >= exp-(g.precision-len(bare)); n-- {
		if n < g.least || n > g.most {
			continue
		}
		if !found || max(n-want, want-n) < max(best-want, want-best) {
			best, found = n, true
		}
	}
	if !found {
		panic(fmt.Sprint(coef, exp, want))
	}
	return parsed(bare+noughts(exp-best), 10), best
}

// rounded is the pattern and the flags that a spot comes to, with the exponent nearest to the wanted one where it is exact. It shares no code with the package.
func (g format) rounded(s spot, direction int, sign bool, want int) (api.Bits, int) {
	coef, exp := s.low, s.exp
	if !s.exact && s.farther(direction, sign) {
		coef = plus(coef, 1)
	}
	if coef.Cmp(power(g.base, g.precision)) == 0 {
		coef, exp = power(g.base, g.precision-1), exp+1
	}
	switch {
	case exp > g.most && (direction == api.Even || direction == api.Away || outward(direction, sign)):
		return g.infinity(sign), overflow
	case exp > g.most:
		return g.greatest(sign), overflow
	case s.exact && g.base == 10:
		coef, exp = g.member(coef, exp, want)
		return g.finite(sign, coef, exp), 0
	case s.exact:
		return g.finite(sign, coef, exp), 0
	case s.low.Cmp(power(g.base, g.precision-1)) < 0:
		return g.finite(sign, coef, exp), underflow
	}
	return g.finite(sign, coef, exp), inexact
}

// wanted is the exponent that a number has of itself: a binary one's is 0.
func (m meaning) wanted() int {
	if m.base == 2 {
		return 0
	}
	return m.exp
}

// answers are what something comes to in a format, by its sign and the direction.
func (g format) answers(m meaning) func(direction int, sign bool) (api.Bits, int) {
	switch {
	case m.class == api.Infinite:
		return func(_ int, sign bool) (api.Bits, int) { return g.infinity(sign), 0 }
	case m.class == api.NaN:
		flags := 0
		if m.signal {
			flags = invalid
		}
		return func(_ int, sign bool) (api.Bits, int) { return g.nan(sign, false, g.payload(m.coef)), flags }
	case m.coef.Sign() == 0:
		return func(_ int, sign bool) (api.Bits, int) { return g.nought(sign, m.wanted()), 0 }
	}
	s := g.spot(m)
	return func(direction int, sign bool) (api.Bits, int) { return g.rounded(s, direction, sign, m.wanted()) }
}

// room is how many digits of its base a format's payloads have.
func (g format) room() int {
	if g.base == 2 {
		return g.precision - 2
	}
	return g.precision - 1
}

// payload is the one that a NaN has in the format: 0, where there is no room.
func (g format) payload(payload *big.Int) *big.Int {
	if payload.Cmp(power(g.base, g.room())) >= 0 {
		return new(big.Int)
	}
	return payload
}

// scattered is a number of 256 bits that follows from its seed alone.
func scattered(seed uint64) *big.Int {
	var b api.Bits
	seed *= uint64(len(b))
	for i := range b {
		word := (seed + uint64(i) + 1) * 0x9e3779b97f4a7c15
		word = (word ^ word>>30) * 0xbf58476d1ce4e5b9
		word = (word ^ word>>27) * 0x94d049bb133111eb
		b[i] = word ^ word>>31
	}
	return toBig(b)
}

// among is a number from the least one on, below the bound, that follows from the seed alone.
func among(seed uint64, least, bound *big.Int) *big.Int {
	n := new(big.Int).Mod(scattered(seed), new(big.Int).Sub(bound, least))
	return n.Add(n, least)
}

// within is among of small numbers, the bound among them.
func within(seed uint64, least, most int) int {
	return int(among(seed, big.NewInt(int64(least)), big.NewInt(int64(most)+1)).Int64())
}
