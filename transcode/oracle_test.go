package transcode_test

import (
	"fmt"
	"math/big"
	"strconv"
	"strings"
	"testing"

	"caliper/api"
	"caliper/decimal"
	"caliper/dectext"
	"caliper/transcode"
)

// format is what DOC.md and the chapter of layer 14 say of a decimal format, and what this chapter says of its twin, worked out by hand.
type format struct {
	number, twin, width, precision, least, most int
	g, t, declets                               int
	dense                                       bool
}

var formats = []format{
	{7, 10, 32, 7, -101, 90, 11, 20, 2, false},
	{8, 11, 64, 16, -398, 369, 13, 50, 5, false},
	{9, 12, 128, 34, -6176, 6111, 17, 110, 11, false},
	{10, 7, 32, 7, -101, 90, 11, 20, 2, true},
	{11, 8, 64, 16, -398, 369, 13, 50, 5, true},
	{12, 9, 128, 34, -6176, 6111, 17, 110, 11, true},
}

var (
	directions = []int{api.Even, api.Away, api.Zero, api.Up, api.Down}
	signs      = []bool{false, true}
	nothing    api.Bits
)

// numbered is the format of a number.
func numbered(number int) format { return formats[number-api.Plain32] }

// each runs a test for every format, all at one time, and beside other tests.
func each(t *testing.T, run func(t *testing.T, f format)) {
	t.Parallel()
	for _, f := range formats {
		t.Run(strconv.Itoa(f.number), func(t *testing.T) {
			t.Parallel()
			run(t, f)
		})
	}
}

// toBig brings math/big in as the oracle: it shares no code with the package, nor with layer 14.
func toBig(b api.Bits) *big.Int {
	sum := new(big.Int)
	for i := len(b) - 1; i >= 0; i-- {
		sum.Or(sum.Lsh(sum, 64), new(big.Int).SetUint64(b[i]))
	}
	return sum
}

func toBits(n *big.Int) api.Bits {
	var b api.Bits
	for i := range b {
		b[i] = new(big.Int).Rsh(n, uint(64*i)).Uint64()
	}
	return b
}

func ten(n int) *big.Int { return new(big.Int).Exp(big.NewInt(10), big.NewInt(int64(n)), nil) }

func two(n int) *big.Int { return new(big.Int).Lsh(big.NewInt(1), uint(n)) }

func plus(n *big.Int, more int64) *big.Int { return new(big.Int).Add(n, big.NewInt(more)) }

func noughts(n int) string { return strings.Repeat("0", n) }

func nines(n int) string { return strings.Repeat("9", n) }

// parsed is a number by its text.
func parsed(text string, base int) *big.Int {
	n, ok := new(big.Int).SetString(text, base)
	if !ok {
		panic("no number: " + text)
	}
	return n
}

// digitsBits is the number of some digits.
func digitsBits(digits string) api.Bits { return toBits(parsed("0"+digits, 10)) }

// small is a short text of bits as a number.
func small(bits string) int {
	n, err := strconv.ParseInt(bits, 2, 64)
	if err != nil {
		panic(err)
	}
	return int(n)
}

// written is the declet of a number of three digits by equations of bits, another way than the table of layer 13.
func written(n int) string {
	bit := func(digit, place int) int { return digit >> place & 1 }
	x, y, z := n/100, n/10%10, n%10
	a, b, c, d := bit(x, 3), bit(x, 2), bit(x, 1), bit(x, 0)
	e, f, g, h := bit(y, 3), bit(y, 2), bit(y, 1), bit(y, 0)
	i, j, k, m := bit(z, 3), bit(z, 2), bit(z, 1), bit(z, 0)
	return bare(fmt.Sprint(
		b|a&j|a&f&i, c|a&k|a&g&i, d,
		f&(1-a&i)|(1-a)&e&j|e&i, g|(1-a)&e&k|a&i, h,
		a|e|i, a|e&i|(1-e)&j, e|a&i|(1-a)&k, m,
	))
}

// three is what ten bits mean, and whether they are the declet of it.
type three struct {
	n         int
	canonical bool
}

var declets = allDeclets()

func allDeclets() map[string]three {
	all := map[string]three{}
	for n := range 1000 {
		all[written(n)] = three{n, true}
	}
	for d := range 1024 {
		text := fmt.Sprintf("%010b", d)
		if _, ok := all[text]; !ok {
			// Of the others the two highest bits mean nothing.
			all[text] = three{all["00"+text[2:]].n, false}
		}
	}
	return all
}

// bare is a text without its spaces.
func bare(text string) string { return strings.ReplaceAll(text, " ", "") }

// threes are what declets mean, three digits each, and whether all are canonical.
func threes(t string) (string, bool) {
	text, canonical := "", true
	for ; t != ""; t = t[10:] {
		d := declets[t[:10]]
		text += fmt.Sprintf("%03d", d.n)
		canonical = canonical && d.canonical
	}
	return text, canonical
}

// pattern is that of a text of bits.
func (f format) pattern(text string) api.Bits {
	if len(text) != f.width {
		panic(text)
	}
	return toBits(parsed(text, 2))
}

// meaning is what a pattern means, and whether it is canonical, by the words of layer 14's chapter over the pattern's bits as a text.
func (f format) meaning(b api.Bits) (api.Datum, bool) {
	text := fmt.Sprintf("%0*b", f.width, toBig(b))
	g, t := text[1:1+f.g], text[1+f.g:]
	d := api.Datum{Class: api.Finite, Sign: text[0] == '1'}
	if strings.HasPrefix(g, "11110") {
		d.Class = api.Infinite
		return d, !strings.Contains(g[5:]+t, "1")
	}
	if strings.HasPrefix(g, "11111") {
		d.Class, d.Signal = api.NaN, g[5] == '1'
		payload, canonical := f.tail("", t)
		if payload.Cmp(ten(f.precision-1)) >= 0 {
			return d, false
		}
		d.Coef = toBits(payload)
		return d, canonical && !strings.Contains(g[6:], "1")
	}
	field, lead := f.finite(g)
	d.Exp = small(field) + f.least
	coef, canonical := f.tail(lead, t)
	if coef.Cmp(ten(f.precision)) >= 0 {
		return d, false
	}
	d.Coef = toBits(coef)
	return d, canonical
}

// finite is a finite number's exponent field as bits, and what stands ahead of T: bits of a plain pattern, a digit of a dense one.
func (f format) finite(g string) (field, lead string) {
	last := len(g) - 1
	switch {
	case !f.dense && g[:2] != "11":
		return g[:len(g)-3], g[len(g)-3:]
	case !f.dense:
		return g[2:last], "100" + g[last:]
	case g[:2] != "11":
		return g[:2] + g[5:], strconv.Itoa(small(g[2:5]))
	case g[4] == '1':
		return g[2:4] + g[5:], "9"
	}
	return g[2:4] + g[5:], "8"
}

// tail is what T means behind a lead, and whether its declets are canonical.
func (f format) tail(lead, t string) (*big.Int, bool) {
	if !f.dense {
		return parsed("0"+lead+t, 2), true
	}
	text, canonical := threes(t)
	return parsed("0"+lead+text, 10), canonical
}

// made is the canonical pattern of a datum that is the format's, laid down bit by bit.
func (f format) made(d api.Datum) api.Bits {
	sign := "0"
	if d.Sign {
		sign = "1"
	}
	switch {
	case d.Class == api.Infinite:
		return f.pattern(sign + "11110" + noughts(f.width-6))
	case d.Class == api.NaN && d.Signal:
		return f.pattern(sign + "111111" + noughts(f.g-6) + f.rest(toBig(d.Coef)))
	case d.Class == api.NaN:
		return f.pattern(sign + "111110" + noughts(f.g-6) + f.rest(toBig(d.Coef)))
	}
	worth := two(f.t)
	if f.dense {
		worth = ten(f.precision - 1)
	}
	lead, rest := new(big.Int).DivMod(toBig(d.Coef), worth, new(big.Int))
	return f.pattern(sign + f.combined(d.Exp, int(lead.Int64())) + f.rest(rest))
}

// combined is G with an exponent and what stands ahead of T: the bits as a number, or the digit.
func (f format) combined(exp, lead int) string {
	field := fmt.Sprintf("%0*b", f.g-3, exp-f.least)
	three, one := fmt.Sprintf("%03b", lead), strconv.Itoa(lead%2)
	switch {
	case !f.dense && lead < 8:
		return field + three
	case !f.dense:
		return "11" + field + one
	case lead < 8:
		return field[:2] + three + field[2:]
	}
	return "11" + field[:2] + one + field[2:]
}

// rest is the T of a number.
func (f format) rest(n *big.Int) string {
	if !f.dense {
		return fmt.Sprintf("%0*b", f.t, n)
	}
	text, t := fmt.Sprintf("%0*d", 3*f.declets, n), ""
	for ; text != ""; text = text[3:] {
		n, _ := strconv.Atoi(text[:3])
		t += written(n)
	}
	return t
}

// negated is a pattern with its highest bit turned.
func (f format) negated(b api.Bits) api.Bits {
	b[(f.width-1)/64] ^= 1 << ((f.width - 1) % 64)
	return b
}

// with is a pattern with more bits set.
func with(b api.Bits, more *big.Int) api.Bits {
	return toBits(new(big.Int).Or(toBig(b), more))
}

// finite is a finite datum of some digits.
func finite(sign bool, digits string, exp int) api.Datum {
	return api.Datum{Class: api.Finite, Sign: sign, Exp: exp, Coef: digitsBits(digits)}
}

// scattered is a number of 256 bits that follows from its seed alone.
func scattered(seed uint64) *big.Int {
	var b api.Bits
	seed *= uint64(len(b))
	for i := range b {
		word := (seed + uint64(i) + 1) * 0x9e3779b97f4a7c15
		word = (word ^ word>>30) * 0xbf58476d1ce4e5b9
		word = (word ^ word>>27) * 0x94d049bb133111eb
		b[i] = word ^ word>>31
	}
	return toBig(b)
}

// high are the highest so many of a scattered number's bits.
func high(seed uint64, count int) *big.Int {
	return new(big.Int).Rsh(scattered(seed), uint(256-count))
}

// drawn is digits that follow from the seed alone, the first of them not 0.
func drawn(count int, seed uint64) string {
	least := ten(count - 1)
	n := new(big.Int).Mod(scattered(seed), new(big.Int).Sub(ten(count), least))
	return n.Add(n, least).String()
}

// codes fails unless the pattern has this Code.
func codes(t *testing.T, number int, b, want api.Bits) {
	t.Helper()
	if code, errno := transcode.Code(number, b); code != want || errno != api.OK {
		t.Errorf("Code(%d, %x): %x, %d; want %x", number, b, code, errno, want)
	}
}

// means fails unless the pattern is canonical and means this.
func means(t *testing.T, number int, b api.Bits, want api.Datum) {
	t.Helper()
	if d, canonical, errno := decimal.Unpack(number, b); d != want || !canonical || errno != api.OK {
		t.Errorf("Unpack(%d, %x): %+v, %v, %d; want %+v", number, b, d, canonical, errno, want)
	}
}

// oneText fails unless a pattern and its twin's have the same text.
func (f format) oneText(t *testing.T, b, code api.Bits) {
	t.Helper()
	text, errno := dectext.Write(f.number, b)
	twins, twinErrno := dectext.Write(f.twin, code)
	if text != twins || text == "" || errno != api.OK || twinErrno != api.OK {
		t.Errorf("%d, %x: %s, %d; %d, %x: %s, %d", f.number, b, text, errno, f.twin, code, twins, twinErrno)
	}
}

// check holds all that is promised of one pattern against the oracle, with both signs, and answers its Code.
func (f format) check(t *testing.T, b api.Bits) api.Bits {
	t.Helper()
	d, canonical := f.meaning(b)
	twin := numbered(f.twin)
	own, want := f.made(d), twin.made(d)
	if again, ok := twin.meaning(want); again != d || !ok || canonical != (own == b) {
		t.Fatalf("the oracle isn't at one with itself: %d, %x", f.number, b)
	}
	answer := want
	for range signs {
		codes(t, f.number, b, want)
		means(t, f.twin, want, d)
		// Back in the first format it is the canonical pattern, which has the same Code.
		codes(t, f.twin, want, own)
		codes(t, f.number, own, want)
		f.oneText(t, b, want)
		// The highest bit changes the sign alone.
		d.Sign = !d.Sign
		b, own, want = f.negated(b), f.negated(own), twin.negated(want)
	}
	return answer
}

// kept are the canonical patterns of a format by their Codes.
type kept map[api.Bits]api.Bits

// add fails if another canonical pattern has the Code already.
func (k kept) add(t *testing.T, f format, b api.Bits) {
	t.Helper()
	code, errno := transcode.Code(f.number, b)
	if errno != api.OK {
		t.Errorf("Code(%d, %x): %d", f.number, b, errno)
	}
	if other, ok := k[code]; ok && other != b {
		t.Errorf("%d: %x is the Code of %x and of %x", f.number, code, b, other)
	}
	k[code] = b
}
