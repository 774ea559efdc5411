package crossout_test

import (
	"fmt"
	"math/big"
	"strconv"
	"strings"
	"testing"

	"caliper/api"
	"caliper/crossout"
)

const (
	invalid   = api.Invalid
	inexact   = api.Inexact
	underflow = api.Underflow + api.Inexact
	overflow  = api.Overflow + api.Inexact
)

// source is what DOC.md says of a binary format, worked out by hand.
type source struct {
	number, width, precision, least, most int
}

var sources = []source{
	{1, 16, 11, -24, 5},
	{2, 16, 8, -133, 120},
	{3, 32, 24, -149, 104},
	{4, 64, 53, -1074, 971},
	{5, 128, 113, -16494, 16271},
	{6, 256, 241, -16622, 16143},
}

// target is what DOC.md and the chapter of layer 14 say of a decimal format, worked out by hand.
type target struct {
	number, twin, width, precision, least, most int
	g, t, declets                               int
	dense                                       bool
}

var targets = []target{
	{7, 10, 32, 7, -101, 90, 11, 20, 2, false},
	{8, 11, 64, 16, -398, 369, 13, 50, 5, false},
	{9, 12, 128, 34, -6176, 6111, 17, 110, 11, false},
	{10, 7, 32, 7, -101, 90, 11, 20, 2, true},
	{11, 8, 64, 16, -398, 369, 13, 50, 5, true},
	{12, 9, 128, 34, -6176, 6111, 17, 110, 11, true},
}

var (
	directions = []int{api.Even, api.Away, api.Zero, api.Up, api.Down}
	signs      = []bool{false, true}
	nothing    api.Bits
)

// numbered is the decimal format of a number.
func numbered(number int) target { return targets[number-api.Plain32] }

// of is the decimal formats of a width, plain and dense.
func of(width int) []target {
	var list []target
	for _, g := range targets {
		if g.width == width {
			list = append(list, g)
		}
	}
	return list
}

// each runs a test for every binary format, all at one time, and beside other tests.
func each(t *testing.T, run func(t *testing.T, f source)) {
	t.Parallel()
	for _, f := range sources {
		t.Run(strconv.Itoa(f.number), func(t *testing.T) {
			t.Parallel()
			run(t, f)
		})
	}
}

// toBig brings math/big in as the oracle: it shares no code with the package, nor with the layers ahead of it.
func toBig(b api.Bits) *big.Int {
	sum := new(big.Int)
	for i := len(b) - 1; i >= 0; i-- {
		sum.Or(sum.Lsh(sum, 64), new(big.Int).SetUint64(b[i]))
	}
	return sum
}

func toBits(n *big.Int) api.Bits {
	var b api.Bits
	for i := range b {
		b[i] = new(big.Int).Rsh(n, uint(64*i)).Uint64()
	}
	return b
}

func power(base int64, n int) *big.Int {
	return new(big.Int).Exp(big.NewInt(base), big.NewInt(int64(n)), nil)
}

func two(n int) *big.Int { return new(big.Int).Lsh(big.NewInt(1), uint(n)) }

func ten(n int) *big.Int { return power(10, n) }

func plus(n *big.Int, more int64) *big.Int { return new(big.Int).Add(n, big.NewInt(more)) }

func times(a, b *big.Int) *big.Int { return new(big.Int).Mul(a, b) }

func noughts(n int) string { return strings.Repeat("0", n) }

// parsed is a number by its text.
func parsed(text string, base int) *big.Int {
	n, ok := new(big.Int).SetString(text, base)
	if !ok {
		panic("no number: " + text)
	}
	return n
}

// infinity is the pattern of plus infinity.
func (f source) infinity() *big.Int { return new(big.Int).Sub(two(f.width-1), two(f.precision-1)) }

// nan is the pattern of a NaN without sign. With the payload 0 one that signals would be the infinity.
func (f source) nan(payload *big.Int, signal bool) *big.Int {
	pattern := new(big.Int).Add(f.infinity(), payload)
	if signal {
		return pattern
	}
	return pattern.Add(pattern, two(f.precision-2))
}

// pattern is the one of coef times 2^exp, which is the format's.
func (f source) pattern(coef *big.Int, exp int) *big.Int {
	return new(big.Int).Add(new(big.Int).Lsh(big.NewInt(int64(exp-f.least)), uint(f.precision-1)), coef)
}

// reading undoes pattern.
func (f source) reading(pattern *big.Int) (coef *big.Int, exp int) {
	field := int(new(big.Int).Rsh(pattern, uint(f.precision-1)).Int64())
	coef = new(big.Int).Mod(pattern, two(f.precision-1))
	if field == 0 {
		return coef, f.least
	}
	return coef.Add(coef, two(f.precision-1)), f.least + field - 1
}

// below is the pattern of the greatest number that isn't above num / den: the greatest one of all, if that is greater still.
func (f source) below(num, den *big.Int) *big.Int {
	exp := max(f.least, num.BitLen()-den.BitLen()-f.precision)
	coef := quotient(num, den, exp)
	if coef.BitLen() > f.precision {
		exp++
		coef = quotient(num, den, exp)
	}
	if exp > f.most {
		return plus(f.infinity(), -1)
	}
	return f.pattern(coef, exp)
}

// quotient is the whole part of num / den / 2^n.
func quotient(num, den *big.Int, n int) *big.Int {
	return new(big.Int).Quo(new(big.Int).Lsh(num, uint(max(-n, 0))), new(big.Int).Lsh(den, uint(max(n, 0))))
}

// holding is the pattern of coef times 2^exp, though perhaps with another coef; ok is whether the format has that number.
func (f source) holding(coef *big.Int, exp int) (pattern *big.Int, ok bool) {
	num, den := new(big.Int).Lsh(coef, uint(max(exp, 0))), two(max(-exp, 0))
	pattern = f.below(num, den)
	c, q := f.reading(pattern)
	left := times(new(big.Int).Lsh(c, uint(max(q, 0))), den)
	return pattern, left.Cmp(new(big.Int).Lsh(num, uint(max(-q, 0)))) == 0
}

// signed is a pattern with the sign's bit.
func (f source) signed(pattern *big.Int, sign bool) api.Bits {
	if sign {
		pattern = new(big.Int).Or(pattern, two(f.width-1))
	}
	return toBits(pattern)
}

// meaning is what a binary pattern without sign means: of a finite number its digits, without noughts at the end, none of 0, and the exponent of the last one.
type meaning struct {
	class, exp int
	digits     string
	signal     bool
	payload    *big.Int
}

// meant is what a pattern without sign means. A number's digits are those of a whole number: twos below the line are fives above it, and tens below.
func (f source) meant(pattern *big.Int) meaning {
	switch order := pattern.Cmp(f.infinity()); {
	case order == 0:
		return meaning{class: api.Infinite}
	case order > 0:
		payload := new(big.Int).Mod(pattern, two(f.precision-2))
		return meaning{class: api.NaN, signal: pattern.Bit(f.precision-2) == 0, payload: payload}
	}
	coef, exp := f.reading(pattern)
	coef = times(coef, power(5, max(-exp, 0)))
	text := coef.Lsh(coef, uint(max(exp, 0))).String()
	digits := strings.TrimRight(text, "0")
	return meaning{class: api.Finite, digits: digits, exp: min(exp, 0) + len(text) - len(digits)}
}

// outward says whether a direction goes away from 0, whatever lies near.
func outward(direction int, sign bool) bool {
	return direction == api.Up && !sign || direction == api.Down && sign
}

// farther says whether the next number is taken, where tail stands behind the last digit that there is room for. A tail has no noughts at its end, so that texts lie in the order of their numbers.
func farther(direction int, sign bool, last byte, tail string) bool {
	switch direction {
	case api.Even:
		return tail > "5" || tail == "5" && (last-'0')%2 == 1
	case api.Away:
		return tail >= "5"
	}
	return outward(direction, sign)
}

// finite is the datum of coef times 10^exp.
func finite(sign bool, coef *big.Int, exp int) api.Datum {
	return api.Datum{Class: api.Finite, Sign: sign, Exp: exp, Coef: toBits(coef)}
}

// tooGreat is what becomes of a number that overflows.
func (g target) tooGreat(direction int, sign bool) (api.Datum, int) {
	if direction == api.Even || direction == api.Away || outward(direction, sign) {
		return api.Datum{Class: api.Infinite, Sign: sign}, overflow
	}
	return finite(sign, plus(ten(g.precision), -1), g.most), overflow
}

// cut is digits with so many of them ahead, and those behind. Where there are fewer, noughts are set behind, and where there is room for none, noughts ahead.
func cut(digits string, ahead int) (head, tail string) {
	if ahead <= 0 {
		return "0", noughts(-ahead) + digits
	}
	if ahead >= len(digits) {
		return digits + noughts(ahead-len(digits)), ""
	}
	return digits[:ahead], digits[ahead:]
}

// rounded goes by DOC.md's words over the digits as a text, of a number that isn't 0.
func (g target) rounded(m meaning, direction int, sign bool) (api.Datum, int) {
	// The number lies below 10^top, and not below the next power down.
	top := len(m.digits) + m.exp
	exp := max(g.least, top-g.precision)
	if exp > g.most {
		return g.tooGreat(direction, sign)
	}
	head, tail := cut(m.digits, top-exp)
	if tail == "" {
		return g.nearest(m, sign), 0
	}
	coef := parsed(head, 10)
	if farther(direction, sign, head[len(head)-1], tail) {
		coef = plus(coef, 1)
	}
	if coef.Cmp(ten(g.precision)) == 0 {
		coef, exp = ten(g.precision-1), exp+1
	}
	switch {
	case exp > g.most:
		return g.tooGreat(direction, sign)
	case top <= g.precision-1+g.least:
		return finite(sign, coef, exp), underflow
	}
	return finite(sign, coef, exp), inexact
}

// nearest is the member nearest to the exponent 0 of a number that the format has: every exponent is tried that could be one.
func (g target) nearest(m meaning, sign bool) api.Datum {
	found := g.most + 1
	for exp := max(g.least, m.exp-g.precision); exp <= min(g.most, m.exp); exp++ {
		if len(m.digits)+m.exp-exp <= g.precision && (found > g.most || max(exp, -exp) < max(found, -found)) {
			found = exp
		}
	}
	return finite(sign, parsed(m.digits+noughts(m.exp-found), 10), found)
}

// becomes is what something binary comes to, and the flags.
func (g target) becomes(m meaning, direction int, sign bool) (api.Datum, int) {
	d := api.Datum{Class: m.class, Sign: sign}
	switch {
	case m.class == api.NaN:
		if m.payload.Cmp(ten(g.precision-1)) < 0 {
			d.Coef = toBits(m.payload)
		}
		if m.signal {
			return d, invalid
		}
		return d, 0
	case m.class == api.Infinite || m.digits == "":
		return d, 0
	}
	return g.rounded(m, direction, sign)
}

// written is the declet of a number of three digits by equations of bits, another way than the table of layer 13.
func written(n int) string {
	bit := func(digit, place int) int { return digit >> place & 1 }
	x, y, z := n/100, n/10%10, n%10
	a, b, c, d := bit(x, 3), bit(x, 2), bit(x, 1), bit(x, 0)
	e, f, g, h := bit(y, 3), bit(y, 2), bit(y, 1), bit(y, 0)
	i, j, k, m := bit(z, 3), bit(z, 2), bit(z, 1), bit(z, 0)
	declet := 0
	for _, bit := range []int{
		b | a&j | a&f&i, c | a&k | a&g&i, d,
		f&(1-a&i) | (1-a)&e&j | e&i, g | (1-a)&e&k | a&i, h,
		a | e | i, a | e&i | (1-e)&j, e | a&i | (1-a)&k, m,
	} {
		declet = declet<<1 | bit
	}
	return inBits(declet, 10)
}

// inBits is a number as a text of so many bits.
func inBits(n, count int) string {
	text := strconv.FormatInt(int64(n), 2)
	return noughts(count-len(text)) + text
}

// made is the canonical pattern of a datum that is the format's, laid down bit by bit.
func (g target) made(d api.Datum) api.Bits {
	sign := "0"
	if d.Sign {
		sign = "1"
	}
	switch {
	case d.Class == api.Infinite:
		return g.laid(sign + "11110" + noughts(g.width-6))
	case d.Class == api.NaN && d.Signal:
		return g.laid(sign + "111111" + noughts(g.g-6) + g.rest(toBig(d.Coef)))
	case d.Class == api.NaN:
		return g.laid(sign + "111110" + noughts(g.g-6) + g.rest(toBig(d.Coef)))
	}
	worth := two(g.t)
	if g.dense {
		worth = ten(g.precision - 1)
	}
	lead, rest := new(big.Int).DivMod(toBig(d.Coef), worth, new(big.Int))
	return g.laid(sign + g.combined(d.Exp, int(lead.Int64())) + g.rest(rest))
}

// laid is the pattern of a text of bits.
func (g target) laid(text string) api.Bits {
	if len(text) != g.width {
		panic(text)
	}
	return toBits(parsed(text, 2))
}

// combined is G with an exponent and what stands ahead of T: the bits as a number, or the digit.
func (g target) combined(exp, lead int) string {
	field := inBits(exp-g.least, g.g-3)
	switch {
	case !g.dense && lead < 8:
		return field + inBits(lead, 3)
	case !g.dense:
		return "11" + field + strconv.Itoa(lead%2)
	case lead < 8:
		return field[:2] + inBits(lead, 3) + field[2:]
	}
	return "11" + field[:2] + strconv.Itoa(lead%2) + field[2:]
}

// rest is the T of a number.
func (g target) rest(n *big.Int) string {
	if !g.dense {
		return fmt.Sprintf("%0*b", g.t, n)
	}
	text, t := fmt.Sprintf("%0*d", 3*g.declets, n), ""
	for ; text != ""; text = text[3:] {
		n, _ := strconv.Atoi(text[:3])
		t += written(n)
	}
	return t
}

// converts fails unless the pattern becomes this one, with these flags.
func converts(t *testing.T, from, to, direction int, b, want api.Bits, wantFlags int) {
	t.Helper()
	got, flags, errno := crossout.Convert(from, to, direction, b)
	if got != want || flags != wantFlags || errno != api.OK {
		t.Errorf("Convert(%d, %d, %d, %x): %x %d %d, not %x %d", from, to, direction, b, got, flags, errno, want, wantFlags)
	}
}

// always fails unless the pattern becomes the canonical one of this datum in all directions.
func (f source) always(t *testing.T, g target, b api.Bits, want api.Datum, flags int) {
	t.Helper()
	made := g.made(want)
	for _, direction := range directions {
		converts(t, f.number, g.number, direction, b, made, flags)
	}
}

// refused fails unless Convert answers ErrArg and nothing else.
func refused(t *testing.T, from, to, direction int, b api.Bits) {
	t.Helper()
	got, flags, errno := crossout.Convert(from, to, direction, b)
	if got != nothing || flags != 0 || errno != api.ErrArg {
		t.Errorf("Convert(%d, %d, %d, %x): %x %d %d, not ErrArg", from, to, direction, b, got, flags, errno)
	}
}

// goes fails unless a pattern without sign becomes what the oracle has, in every decimal format and direction, with both signs.
func (f source) goes(t *testing.T, pattern *big.Int) {
	t.Helper()
	m := f.meant(pattern)
	for _, g := range targets {
		// Most directions come to the same, and to lay it down takes the longest.
		made := map[api.Datum]api.Bits{}
		for _, sign := range signs {
			b := f.signed(pattern, sign)
			for _, direction := range directions {
				want, flags := g.becomes(m, direction, sign)
				if _, ok := made[want]; !ok {
					made[want] = g.made(want)
				}
				converts(t, f.number, g.number, direction, b, made[want], flags)
			}
		}
	}
}

// turn is goes in one direction and with one sign alone, which go with n.
func (f source) turn(t *testing.T, pattern *big.Int, n int) {
	t.Helper()
	m, sign := f.meant(pattern), n/5%2 == 1
	for _, g := range targets {
		want, flags := g.becomes(m, n%5, sign)
		converts(t, f.number, g.number, n%5, f.signed(pattern, sign), g.made(want), flags)
	}
}

// scattered is a word that follows from its seed alone.
func scattered(seed uint64) uint64 {
	seed = (seed + 1) * 0x9e3779b97f4a7c15
	word := (seed ^ seed>>30) * 0xbf58476d1ce4e5b9
	word = (word ^ word>>27) * 0x94d049bb133111eb
	return word ^ word>>31
}

// among is a number from the least one on, below the bound, that follows from the seed alone.
func among(seed uint64, least, bound *big.Int) *big.Int {
	room, n := new(big.Int).Sub(bound, least), new(big.Int)
	for i := range uint64(room.BitLen()/64 + 2) {
		n.Or(n.Lsh(n, 64), new(big.Int).SetUint64(scattered(seed<<10+i)))
	}
	return n.Add(n.Mod(n, room), least)
}

// drawn is a number below the bound that follows from the seed alone.
func drawn(seed uint64, bound *big.Int) *big.Int { return among(seed, new(big.Int), bound) }
