package crossin_test

import (
	"fmt"
	"math/big"
	"strconv"
	"strings"
	"testing"

	"caliper/api"
	"caliper/crossin"
)

const (
	invalid   = api.Invalid
	inexact   = api.Inexact
	underflow = api.Underflow + api.Inexact
	overflow  = api.Overflow + api.Inexact
)

// source is what DOC.md and the chapter of layer 14 say of a decimal format, worked out by hand.
type source struct {
	number, twin, width, precision, least, most int
	g, t, declets                               int
	dense                                       bool
}

var sources = []source{
	{7, 10, 32, 7, -101, 90, 11, 20, 2, false},
	{8, 11, 64, 16, -398, 369, 13, 50, 5, false},
	{9, 12, 128, 34, -6176, 6111, 17, 110, 11, false},
	{10, 7, 32, 7, -101, 90, 11, 20, 2, true},
	{11, 8, 64, 16, -398, 369, 13, 50, 5, true},
	{12, 9, 128, 34, -6176, 6111, 17, 110, 11, true},
}

// target is what DOC.md says of a binary format, worked out by hand.
type target struct {
	number, width, precision, least, most int
}

var targets = []target{
	{1, 16, 11, -24, 5},
	{2, 16, 8, -133, 120},
	{3, 32, 24, -149, 104},
	{4, 64, 53, -1074, 971},
	{5, 128, 113, -16494, 16271},
	{6, 256, 241, -16622, 16143},
}

var (
	directions = []int{api.Even, api.Away, api.Zero, api.Up, api.Down}
	signs      = []bool{false, true}
	nothing    api.Bits
)

// numbered is the decimal format of a number.
func numbered(number int) source { return sources[number-api.Plain32] }

// each runs a test for every decimal format, all at one time, and beside other tests.
func each(t *testing.T, run func(t *testing.T, f source)) {
	t.Parallel()
	for _, f := range sources {
		t.Run(strconv.Itoa(f.number), func(t *testing.T) {
			t.Parallel()
			run(t, f)
		})
	}
}

// toBig brings math/big in as the oracle: it shares no code with the package, nor with the layers ahead of it.
func toBig(b api.Bits) *big.Int {
	sum := new(big.Int)
	for i := len(b) - 1; i >= 0; i-- {
		sum.Or(sum.Lsh(sum, 64), new(big.Int).SetUint64(b[i]))
	}
	return sum
}

func toBits(n *big.Int) api.Bits {
	var b api.Bits
	for i := range b {
		b[i] = new(big.Int).Rsh(n, uint(64*i)).Uint64()
	}
	return b
}

func power(base int64, n int) *big.Int {
	return new(big.Int).Exp(big.NewInt(base), big.NewInt(int64(n)), nil)
}

func two(n int) *big.Int { return new(big.Int).Lsh(big.NewInt(1), uint(n)) }

func ten(n int) *big.Int { return power(10, n) }

func plus(n *big.Int, more int64) *big.Int { return new(big.Int).Add(n, big.NewInt(more)) }

func times(a, b *big.Int) *big.Int { return new(big.Int).Mul(a, b) }

func noughts(n int) string { return strings.Repeat("0", n) }

func nines(n int) string { return strings.Repeat("9", n) }

// parsed is a number by its text.
func parsed(text string, base int) *big.Int {
	n, ok := new(big.Int).SetString(text, base)
	if !ok {
		panic("no number: " + text)
	}
	return n
}

// small is a short text of bits as a number.
func small(bits string) int { return int(parsed(bits, 2).Int64()) }

// written is the declet of a number of three digits by equations of bits, another way than the table of layer 13.
func written(n int) string {
	bit := func(digit, place int) int { return digit >> place & 1 }
	x, y, z := n/100, n/10%10, n%10
	a, b, c, d := bit(x, 3), bit(x, 2), bit(x, 1), bit(x, 0)
	e, f, g, h := bit(y, 3), bit(y, 2), bit(y, 1), bit(y, 0)
	i, j, k, m := bit(z, 3), bit(z, 2), bit(z, 1), bit(z, 0)
	return strings.ReplaceAll(fmt.Sprint(
		b|a&j|a&f&i, c|a&k|a&g&i, d,
		f&(1-a&i)|(1-a)&e&j|e&i, g|(1-a)&e&k|a&i, h,
		a|e|i, a|e&i|(1-e)&j, e|a&i|(1-a)&k, m,
	), " ", "")
}

// declets are the numbers that ten bits mean, and others those bits that are the declet of none.
var declets, others = allDeclets()

func allDeclets() (map[string]int, []string) {
	all, rest := map[string]int{}, []string(nil)
	for n := range 1000 {
		all[written(n)] = n
	}
	for d := range 1024 {
		text := fmt.Sprintf("%010b", d)
		if _, ok := all[text]; !ok {
			// Of the others the two highest bits mean nothing.
			all[text] = all["00"+text[2:]]
			rest = append(rest, text)
		}
	}
	return all, rest
}

// pattern is that of a text of bits.
func (f source) pattern(text string) api.Bits {
	if len(text) != f.width {
		panic(text)
	}
	return toBits(parsed(text, 2))
}

// meaning is what a pattern means, by the words of layer 14's chapter over the pattern's bits as a text.
func (f source) meaning(b api.Bits) api.Datum {
	text := fmt.Sprintf("%0*b", f.width, toBig(b))
	g, t := text[1:1+f.g], text[1+f.g:]
	d := api.Datum{Class: api.Finite, Sign: text[0] == '1'}
	switch {
	case strings.HasPrefix(g, "11110"):
		d.Class = api.Infinite
		return d
	case strings.HasPrefix(g, "11111"):
		d.Class, d.Signal = api.NaN, g[5] == '1'
		d.Coef = f.tail("", t, f.precision-1)
		return d
	}
	field, lead := f.field(g)
	d.Exp = small(field) + f.least
	d.Coef = f.tail(lead, t, f.precision)
	return d
}

// field is a finite number's exponent field as bits, and what stands ahead of T: bits of a plain pattern, a digit of a dense one.
func (f source) field(g string) (field, lead string) {
	last := len(g) - 1
	switch {
	case !f.dense && g[:2] != "11":
		return g[:len(g)-3], g[len(g)-3:]
	case !f.dense:
		return g[2:last], "100" + g[last:]
	case g[:2] != "11":
		return g[:2] + g[5:], strconv.Itoa(small(g[2:5]))
	case g[4] == '1':
		return g[2:4] + g[5:], "9"
	}
	return g[2:4] + g[5:], "8"
}

// tail is what T means behind a lead: 0, if that has more digits than there is room for.
func (f source) tail(lead, t string, digits int) api.Bits {
	n := new(big.Int)
	if !f.dense {
		n = parsed("0"+lead+t, 2)
	} else {
		for ; t != ""; t = t[10:] {
			lead += fmt.Sprintf("%03d", declets[t[:10]])
		}
		n = parsed(lead, 10)
	}
	if n.Cmp(ten(digits)) >= 0 {
		return nothing
	}
	return toBits(n)
}

// made is the canonical pattern of a datum that is the format's, laid down bit by bit.
func (f source) made(d api.Datum) api.Bits {
	sign := "0"
	if d.Sign {
		sign = "1"
	}
	switch {
	case d.Class == api.Infinite:
		return f.pattern(sign + "11110" + noughts(f.width-6))
	case d.Class == api.NaN && d.Signal:
		return f.pattern(sign + "111111" + noughts(f.g-6) + f.rest(toBig(d.Coef)))
	case d.Class == api.NaN:
		return f.pattern(sign + "111110" + noughts(f.g-6) + f.rest(toBig(d.Coef)))
	}
	worth := two(f.t)
	if f.dense {
		worth = ten(f.precision - 1)
	}
	lead, rest := new(big.Int).DivMod(toBig(d.Coef), worth, new(big.Int))
	return f.pattern(sign + f.combined(d.Exp, int(lead.Int64())) + f.rest(rest))
}

// combined is G with an exponent and what stands ahead of T: the bits as a number, or the digit.
func (f source) combined(exp, lead int) string {
	field := fmt.Sprintf("%0*b", f.g-3, exp-f.least)
	three, one := fmt.Sprintf("%03b", lead), strconv.Itoa(lead%2)
	switch {
	case !f.dense && lead < 8:
		return field + three
	case !f.dense:
		return "11" + field + one
	case lead < 8:
		return field[:2] + three + field[2:]
	}
	return "11" + field[:2] + one + field[2:]
}

// rest is the T of a number.
func (f source) rest(n *big.Int) string {
	if !f.dense {
		return fmt.Sprintf("%0*b", f.t, n)
	}
	text, t := fmt.Sprintf("%0*d", 3*f.declets, n), ""
	for ; text != ""; text = text[3:] {
		n, _ := strconv.Atoi(text[:3])
		t += written(n)
	}
	return t
}

// finite is the pattern of coef times 10^exp, which is the format's.
func (f source) finite(sign bool, coef *big.Int, exp int) api.Bits {
	return f.made(api.Datum{Class: api.Finite, Sign: sign, Exp: exp, Coef: toBits(coef)})
}

// digits is the pattern of a number of some digits.
func (f source) digits(sign bool, digits string, exp int) api.Bits {
	return f.finite(sign, parsed(digits, 10), exp)
}

// nan is the canonical pattern of a NaN.
func (f source) nan(sign, signal bool, payload *big.Int) api.Bits {
	return f.made(api.Datum{Class: api.NaN, Sign: sign, Signal: signal, Coef: toBits(payload)})
}

// infinity is the canonical pattern of an infinity.
func (f source) infinity(sign bool) api.Bits {
	return f.made(api.Datum{Class: api.Infinite, Sign: sign})
}

// negated is a pattern with its highest bit turned.
func (f source) negated(b api.Bits) api.Bits {
	b[(f.width-1)/64] ^= 1 << ((f.width - 1) % 64)
	return b
}

// with is a pattern with more bits set.
func with(b api.Bits, more *big.Int) api.Bits {
	return toBits(new(big.Int).Or(toBig(b), more))
}

// infinity is the pattern of plus infinity.
func (g target) infinity() *big.Int { return new(big.Int).Sub(two(g.width-1), two(g.precision-1)) }

// quiet is the pattern, without sign, of a NaN that doesn't signal: with the payload, or 0 where that is too great.
func (g target) quiet(payload *big.Int) *big.Int {
	pattern := new(big.Int).Add(g.infinity(), two(g.precision-2))
	if payload.Cmp(two(g.precision-2)) >= 0 {
		return pattern
	}
	return pattern.Add(pattern, payload)
}

// pattern is the one of coef times 2^exp, which is the format's.
func (g target) pattern(coef *big.Int, exp int) *big.Int {
	return new(big.Int).Add(new(big.Int).Lsh(big.NewInt(int64(exp-g.least)), uint(g.precision-1)), coef)
}

// reading undoes pattern. Of the infinity it is what the number above the greatest one would be.
func (g target) reading(pattern *big.Int) (coef *big.Int, exp int) {
	field := int(new(big.Int).Rsh(pattern, uint(g.precision-1)).Int64())
	coef = new(big.Int).Mod(pattern, two(g.precision-1))
	if field == 0 {
		return coef, g.least
	}
	return coef.Add(coef, two(g.precision-1)), g.least + field - 1
}

// signed is a pattern with the sign's bit.
func (g target) signed(pattern *big.Int, sign bool) api.Bits {
	if sign {
		pattern = new(big.Int).Or(pattern, two(g.width-1))
	}
	return toBits(pattern)
}

// place is where a number lies: at coef times 2^exp, or so far beyond it that half is -1, 0 or 1, as it holds against the middle to the next one.
type place struct {
	coef  *big.Int
	exp   int
	exact bool
	half  int
	small bool
}

// placed is where num / den lies, num not 0. It goes by DOC.md's words: q is LEAST, or the number by which the whole part of v / 2^q has P bits.
func (g target) placed(num, den *big.Int) place {
	// One of these two is that number, if it isn't LEAST.
	q := max(g.least, num.BitLen()-den.BitLen()-g.precision)
	whole, rest, unit := divided(num, den, q)
	if whole.BitLen() > g.precision {
		q++
		whole, rest, unit = divided(num, den, q)
	}
	half := new(big.Int).Lsh(rest, 1).Cmp(unit)
	return place{whole, q, rest.Sign() == 0, half, whole.BitLen() < g.precision}
}

// divided is num / den / 2^q: the whole part, and the rest, in parts of a unit.
func divided(num, den *big.Int, q int) (whole, rest, unit *big.Int) {
	if q > 0 {
		unit = new(big.Int).Lsh(den, uint(q))
	} else {
		num, unit = new(big.Int).Lsh(num, uint(-q)), den
	}
	whole, rest = new(big.Int).DivMod(num, unit, new(big.Int))
	return whole, rest, unit
}

// outward says whether a direction goes away from 0, whatever lies near.
func outward(direction int, sign bool) bool {
	return direction == api.Up && !sign || direction == api.Down && sign
}

// rounded is the pattern and the flags that a place comes to. It shares no code with the package.
func (g target) rounded(p place, direction int, sign bool) (api.Bits, int) {
	nearest := direction == api.Even || direction == api.Away
	coef, exp := p.coef, p.exp
	if !p.exact && (outward(direction, sign) || nearest && (p.half > 0 || p.half == 0 && (direction == api.Away || coef.Bit(0) == 1))) {
		coef = plus(coef, 1)
	}
	if coef.BitLen() > g.precision {
		coef, exp = two(g.precision-1), exp+1
	}
	switch {
	case exp > g.most && (nearest || outward(direction, sign)):
		return g.signed(g.infinity(), sign), overflow
	case exp > g.most:
		return g.signed(plus(g.infinity(), -1), sign), overflow
	case p.exact:
		return g.signed(g.pattern(coef, exp), sign), 0
	case p.small:
		return g.signed(g.pattern(coef, exp), sign), underflow
	}
	return g.signed(g.pattern(coef, exp), sign), inexact
}

// answers are what a datum of a decimal format comes to, by its sign and the direction.
func (g target) answers(d api.Datum) func(direction int, sign bool) (api.Bits, int) {
	same := func(pattern *big.Int, flags int) func(int, bool) (api.Bits, int) {
		return func(_ int, sign bool) (api.Bits, int) { return g.signed(pattern, sign), flags }
	}
	switch {
	case d.Class == api.Infinite:
		return same(g.infinity(), 0)
	case d.Class == api.NaN && d.Signal:
		return same(g.quiet(toBig(d.Coef)), invalid)
	case d.Class == api.NaN:
		return same(g.quiet(toBig(d.Coef)), 0)
	case d.Coef == nothing:
		return same(new(big.Int), 0)
	}
	p := g.placed(times(toBig(d.Coef), ten(max(d.Exp, 0))), ten(max(-d.Exp, 0)))
	return func(direction int, sign bool) (api.Bits, int) { return g.rounded(p, direction, sign) }
}

// converts fails unless the pattern becomes this one, with these flags.
func converts(t *testing.T, from, to, direction int, b, want api.Bits, wantFlags int) {
	t.Helper()
	got, flags, errno := crossin.Convert(from, to, direction, b)
	if got != want || flags != wantFlags || errno != api.OK {
		t.Errorf("Convert(%d, %d, %d, %x): %x %d %d, not %x %d", from, to, direction, b, got, flags, errno, want, wantFlags)
	}
}

// always fails unless the pattern becomes this one in all directions.
func always(t *testing.T, from, to int, b, want api.Bits, flags int) {
	t.Helper()
	for _, direction := range directions {
		converts(t, from, to, direction, b, want, flags)
	}
}

// refused fails unless Convert answers ErrArg and nothing else.
func refused(t *testing.T, from, to, direction int, b api.Bits) {
	t.Helper()
	got, flags, errno := crossin.Convert(from, to, direction, b)
	if got != nothing || flags != 0 || errno != api.ErrArg {
		t.Errorf("Convert(%d, %d, %d, %x): %x %d %d, not ErrArg", from, to, direction, b, got, flags, errno)
	}
}

// goes fails unless a pattern becomes what the oracle has, in every binary format and direction, with both signs.
func (f source) goes(t *testing.T, b api.Bits) {
	t.Helper()
	d := f.meaning(b)
	for _, g := range targets {
		want := g.answers(d)
		for _, direction := range directions {
			wanted, flags := want(direction, d.Sign)
			converts(t, f.number, g.number, direction, b, wanted, flags)
			wanted, flags = want(direction, !d.Sign)
			converts(t, f.number, g.number, direction, f.negated(b), wanted, flags)
		}
	}
}

// turn is goes in one direction alone, and with the pattern's own sign.
func (f source) turn(t *testing.T, direction int, b api.Bits) {
	t.Helper()
	d := f.meaning(b)
	for _, g := range targets {
		wanted, flags := g.answers(d)(direction, d.Sign)
		converts(t, f.number, g.number, direction, b, wanted, flags)
	}
}

// scattered is a number of 256 bits that follows from its seed alone.
func scattered(seed uint64) *big.Int {
	var b api.Bits
	seed *= uint64(len(b))
	for i := range b {
		word := (seed + uint64(i) + 1) * 0x9e3779b97f4a7c15
		word = (word ^ word>>30) * 0xbf58476d1ce4e5b9
		word = (word ^ word>>27) * 0x94d049bb133111eb
		b[i] = word ^ word>>31
	}
	return toBig(b)
}

// high are the highest so many of a scattered number's bits.
func high(seed uint64, count int) *big.Int {
	return new(big.Int).Rsh(scattered(seed), uint(256-count))
}

// among is a number from the least one on, below the bound, that follows from the seed alone.
func among(seed uint64, least, bound *big.Int) *big.Int {
	n := new(big.Int).Mod(scattered(seed), new(big.Int).Sub(bound, least))
	return n.Add(n, least)
}

// drawn is digits that follow from the seed alone, the first of them not 0.
func drawn(count int, seed uint64) string { return among(seed, ten(count-1), ten(count)).String() }
