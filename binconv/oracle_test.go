package binconv_test

import (
	"math/big"
	"testing"

	"caliper/api"
	"caliper/binconv"
)

const (
	invalid   = api.Invalid
	inexact   = api.Inexact
	underflow = api.Underflow + api.Inexact
	overflow  = api.Overflow + api.Inexact
)

// format is what DOC.md says of a binary format, worked out by hand.
type format struct {
	number, width, precision, least, most int
}

var formats = []format{
	{1, 16, 11, -24, 5},
	{2, 16, 8, -133, 120},
	{3, 32, 24, -149, 104},
	{4, 64, 53, -1074, 971},
	{5, 128, 113, -16494, 16271},
	{6, 256, 241, -16622, 16143},
}

// holders are, by a format's place in formats, those that have all its numbers, worked out by hand.
var holders = [][]format{
	{formats[0], formats[2], formats[3], formats[4], formats[5]},
	{formats[1], formats[2], formats[3], formats[4], formats[5]},
	{formats[2], formats[3], formats[4], formats[5]},
	{formats[3], formats[4], formats[5]},
	{formats[4], formats[5]},
	{formats[5]},
}

var directions = []int{api.Even, api.Away, api.Zero, api.Up, api.Down}

var bothSigns = []bool{false, true}

func two(n int) *big.Int { return new(big.Int).Lsh(big.NewInt(1), uint(n)) }

func plus(n *big.Int, more int64) *big.Int { return new(big.Int).Add(n, big.NewInt(more)) }

// infinity is the pattern of plus infinity.
func (f format) infinity() *big.Int { return new(big.Int).Sub(two(f.width-1), two(f.precision-1)) }

// nan is the pattern of a NaN without sign. With the payload 0 one that signals would be the infinity.
func (f format) nan(payload *big.Int, signal bool) *big.Int {
	pattern := new(big.Int).Add(f.infinity(), payload)
	if signal {
		return pattern
	}
	return pattern.Add(pattern, two(f.precision-2))
}

// pattern is the one of coef times 2^exp, which is the format's.
func (f format) pattern(coef *big.Int, exp int) *big.Int {
	return new(big.Int).Add(new(big.Int).Lsh(big.NewInt(int64(exp-f.least)), uint(f.precision-1)), coef)
}

// reading undoes pattern.
func (f format) reading(pattern *big.Int) (coef *big.Int, exp int) {
	field := int(new(big.Int).Rsh(pattern, uint(f.precision-1)).Int64())
	coef = new(big.Int).Mod(pattern, two(f.precision-1))
	if field == 0 {
		return coef, f.least
	}
	return coef.Add(coef, two(f.precision-1)), f.least + field - 1
}

// power is the pattern of 2^n, which is the format's.
func (f format) power(n int) *big.Int {
	exp := max(f.least, n-f.precision+1)
	return f.pattern(two(n-exp), exp)
}

// signed is a pattern with the sign's bit.
func (f format) signed(pattern *big.Int, sign bool) api.Bits {
	if sign {
		pattern = new(big.Int).Or(pattern, two(f.width-1))
	}
	var b api.Bits
	for i := range b {
		b[i] = new(big.Int).Rsh(pattern, uint(64*i)).Uint64()
	}
	return b
}

// unsigned undoes signed.
func (f format) unsigned(b api.Bits) (pattern *big.Int, sign bool) {
	pattern = new(big.Int)
	for i := len(b) - 1; i >= 0; i-- {
		pattern.Or(pattern.Lsh(pattern, 64), new(big.Int).SetUint64(b[i]))
	}
	sign = pattern.Bit(f.width-1) == 1
	return pattern.SetBit(pattern, f.width-1, 0), sign
}

// place is where a number lies: at coef times 2^exp, or so far beyond it that half is -1, 0 or 1, as it holds against the middle to the next one.
type place struct {
	coef  *big.Int
	exp   int
	exact bool
	half  int
	small bool
}

// placed is where coef times 2^exp lies, coef not 0. It goes by DOC.md's words: q is LEAST, or the number by which the whole part of v / 2^q has P bits.
func (f format) placed(coef *big.Int, exp int) place {
	q := max(f.least, coef.BitLen()+exp-f.precision)
	if exp >= q {
		whole := new(big.Int).Lsh(coef, uint(exp-q))
		return place{whole, q, true, -1, whole.BitLen() < f.precision}
	}
	gone := uint(q - exp)
	whole := new(big.Int).Rsh(coef, gone)
	rest := new(big.Int).Sub(coef, new(big.Int).Lsh(whole, gone))
	half := rest.Cmp(two(int(gone) - 1))
	return place{whole, q, rest.Sign() == 0, half, whole.BitLen() < f.precision}
}

// outward says whether a direction goes away from 0, whatever lies near.
func outward(direction int, sign bool) bool {
	return direction == api.Up && !sign || direction == api.Down && sign
}

// rounded is the pattern and the flags that a place comes to. It shares no code with the package.
func (f format) rounded(p place, direction int, sign bool) (api.Bits, int) {
	nearest := direction == api.Even || direction == api.Away
	coef, exp := p.coef, p.exp
	if !p.exact && (outward(direction, sign) || nearest && (p.half > 0 || p.half == 0 && (direction == api.Away || coef.Bit(0) == 1))) {
		coef = plus(coef, 1)
	}
	if coef.BitLen() > f.precision {
		coef, exp = two(f.precision-1), exp+1
	}
	switch {
	case exp > f.most && (nearest || outward(direction, sign)):
		return f.signed(f.infinity(), sign), overflow
	case exp > f.most:
		return f.signed(plus(f.infinity(), -1), sign), overflow
	case p.exact:
		return f.signed(f.pattern(coef, exp), sign), 0
	case p.small:
		return f.signed(f.pattern(coef, exp), sign), underflow
	}
	return f.signed(f.pattern(coef, exp), sign), inexact
}

// answers are what a pattern without sign comes to in another format, by its sign and the direction.
func (f format) answers(g format, pattern *big.Int) func(direction int, sign bool) (api.Bits, int) {
	same := func(pattern *big.Int, flags int) func(int, bool) (api.Bits, int) {
		return func(_ int, sign bool) (api.Bits, int) { return g.signed(pattern, sign), flags }
	}
	switch order := pattern.Cmp(f.infinity()); {
	case pattern.Sign() == 0:
		return same(new(big.Int), 0)
	case order == 0:
		return same(g.infinity(), 0)
	case order > 0:
		return same(g.stilled(f, pattern))
	}
	p := g.placed(f.reading(pattern))
	return func(direction int, sign bool) (api.Bits, int) { return g.rounded(p, direction, sign) }
}

// stilled is what another format's NaN without sign becomes.
func (f format) stilled(from format, pattern *big.Int) (*big.Int, int) {
	flags := 0
	if pattern.Bit(from.precision-2) == 0 {
		flags = invalid
	}
	payload := new(big.Int).Mod(pattern, two(from.precision-2))
	if payload.Cmp(two(f.precision-2)) >= 0 {
		payload = new(big.Int)
	}
	return f.nan(payload, false), flags
}

// converts fails unless the pattern becomes this one, with these flags.
func converts(t *testing.T, from, to, direction int, b, want api.Bits, wantFlags int) {
	t.Helper()
	got, flags, errno := binconv.Convert(from, to, direction, b)
	if got != want || flags != wantFlags || errno != api.OK {
		t.Errorf("Convert(%d, %d, %d, %x): %x %d %d, not %x %d", from, to, direction, b, got, flags, errno, want, wantFlags)
	}
}

// always fails unless the pattern becomes this one in all directions.
func always(t *testing.T, from, to int, b, want api.Bits, flags int) {
	t.Helper()
	for _, direction := range directions {
		converts(t, from, to, direction, b, want, flags)
	}
}

// refused fails unless Convert answers ErrArg and nothing else.
func refused(t *testing.T, from, to, direction int, b api.Bits) {
	t.Helper()
	got, flags, errno := binconv.Convert(from, to, direction, b)
	if got != (api.Bits{}) || flags != 0 || errno != api.ErrArg {
		t.Errorf("Convert(%d, %d, %d, %x): %x %d %d, not ErrArg", from, to, direction, b, got, flags, errno)
	}
}

// goes fails unless a pattern becomes what the oracle has, in every format and direction, with both signs.
func (f format) goes(t *testing.T, pattern *big.Int) {
	t.Helper()
	for _, g := range formats {
		want := f.answers(g, pattern)
		for _, sign := range bothSigns {
			b := f.signed(pattern, sign)
			for _, direction := range directions {
				wanted, flags := want(direction, sign)
				converts(t, f.number, g.number, direction, b, wanted, flags)
			}
		}
	}
}

// scattered is a word that follows from its seed alone.
func scattered(seed uint64) uint64 {
	seed = (seed + 1) * 0x9e3779b97f4a7c15
	word := (seed ^ seed>>30) * 0xbf58476d1ce4e5b9
	word = (word ^ word>>27) * 0x94d049bb133111eb
	return word ^ word>>31
}

// drawn is a number below the bound that follows from the seed alone.
func drawn(seed uint64, bound *big.Int) *big.Int {
	n := new(big.Int)
	for i := range uint64(bound.BitLen()/64 + 2) {
		n.Or(n.Lsh(n, 64), new(big.Int).SetUint64(scattered(seed<<10+i)))
	}
	return n.Mod(n, bound)
}

// edges are patterns without sign: 0 and the least ones, those about the greatest subnormal one, about one, the greatest ones, the infinity and what lies above it, the least and the greatest payloads.
func (f format) edges() []*big.Int {
	list := []*big.Int{new(big.Int), f.infinity()}
	for more := range int64(5) {
		list = append(list, big.NewInt(1+more), plus(f.infinity(), -1-more))
		list = append(list, plus(two(f.precision-1), more-2), plus(two(f.precision), more-2), plus(f.power(0), more-2))
		list = append(list, plus(f.infinity(), 1+more), plus(two(f.width-1), -1-more), plus(f.nan(new(big.Int), false), more-2))
	}
	return list
}

// bitwise are patterns without sign of a single bit, of all bits below it, and of all bits above it, at every place.
func (f format) bitwise() []*big.Int {
	var list []*big.Int
	for n := range f.width - 1 {
		below := plus(two(n), -1)
		list = append(list, two(n), below, new(big.Int).Sub(plus(two(f.width-1), -1), below))
	}
	return list
}

// many are so many drawn patterns of each kind: of all patterns, of subnormal ones, of those about one, of those with few bits, and of NaNs.
func (f format) many(count uint64) []*big.Int {
	var list []*big.Int
	for seed := range count {
		list = append(list, drawn(5*seed, two(f.width-1)))
		list = append(list, plus(drawn(5*seed+1, plus(two(f.precision-1), -1)), 1))
		near := f.power(int(scattered(seed)%20) - 10)
		list = append(list, near.Add(near, drawn(5*seed+2, two(f.precision-1))))
		few := new(big.Int).Lsh(drawn(5*seed+3, two(5)), uint(f.precision-6))
		list = append(list, few.Add(few, f.power(f.least+f.precision+int(scattered(seed)%uint64(f.most-f.least)))))
		cut := uint(scattered(seed^77) % uint64(f.precision-2))
		payload := new(big.Int).Rsh(drawn(5*seed+4, two(f.precision-2)), cut)
		list = append(list, f.nan(payload, seed%2 == 1))
	}
	return list
}

// about are the patterns, without sign, of numbers about another format's bounds: half of its least one, its least one, the bound of its subnormal ones, its greatest one, and one.
func (f format) about(g format) []*big.Int {
	var list []*big.Int
	for _, n := range []int{g.least - 2, g.least - 1, g.least, g.least + 1, g.least + g.precision - 1, g.least + g.precision, 0, g.most + g.precision - 1, g.most + g.precision} {
		if n < f.least || n >= f.most+f.precision {
			continue
		}
		power := f.power(n)
		for _, gone := range []int{0, 1, f.precision - g.precision - 2, f.precision - g.precision - 1, f.precision - g.precision, f.precision - g.precision + 1, f.precision - 2} {
			if gone < 0 {
				continue
			}
			for more := int64(-1); more <= 1; more++ {
				list = append(list, plus(new(big.Int).Add(power, two(gone)), more))
				if power.Cmp(two(gone)) > 0 {
					list = append(list, plus(new(big.Int).Sub(power, two(gone)), more))
				}
			}
		}
	}
	return list
}

// all are all patterns without sign, of a format of 16 bits.
func (f format) all() []*big.Int {
	var list []*big.Int
	for n := range int64(1 << (f.width - 1)) {
		list = append(list, big.NewInt(n))
	}
	return list
}

// patterns are all that are tried of a format, without sign.
func (f format) patterns() []*big.Int {
	if f.width == 16 {
		return f.all()
	}
	list := append(f.edges(), f.bitwise()...)
	for _, g := range formats {
		list = append(list, f.about(g)...)
	}
	return append(list, f.many(1500)...)
}
