package round_test

import (
	"fmt"
	"math"
	"math/big"
	"testing"

	"caliper/api"
	"caliper/round"
)

// format is what DOC.md says of a binary format, worked out by hand.
type format struct {
	number, width, precision, least, most int
}

var formats = []format{
	{1, 16, 11, -24, 5},
	{2, 16, 8, -133, 120},
	{3, 32, 24, -149, 104},
	{4, 64, 53, -1074, 971},
	{5, 128, 113, -16494, 16271},
	{6, 256, 241, -16622, 16143},
}

var directions = []int{api.Even, api.Away, api.Zero, api.Up, api.Down}

// value is num / den times 2^exp, none of them below 0.
type value struct {
	num, den *big.Int
	exp      int
}

func (v value) String() string { return fmt.Sprintf("%v/%v*2^%d", v.num, v.den, v.exp) }

// cmp holds v against coef times 2^exp.
func (v value) cmp(coef *big.Int, exp int) int {
	left, right := new(big.Int).Set(v.num), new(big.Int).Mul(coef, v.den)
	if v.exp > exp {
		left.Lsh(left, uint(v.exp-exp))
	} else {
		right.Lsh(right, uint(exp-v.exp))
	}
	return left.Cmp(right)
}

// one is 2^n.
func one(n int) *big.Int { return new(big.Int).Lsh(big.NewInt(1), uint(n)) }

// plus is n and so many more.
func plus(n *big.Int, more int64) *big.Int { return new(big.Int).Add(n, big.NewInt(more)) }

// infinity is the pattern of plus infinity.
func (f format) infinity() *big.Int {
	return new(big.Int).Sub(one(f.width-1), one(f.precision-1))
}

// reading is the coefficient and the exponent of a pattern without sign. Infinity counts as the number that would follow the greatest finite one.
func (f format) reading(pattern *big.Int) (coef *big.Int, exp int) {
	field := int(new(big.Int).Rsh(pattern, uint(f.precision-1)).Int64())
	coef = new(big.Int).Mod(pattern, one(f.precision-1))
	if field == 0 {
		return coef, f.least
	}
	return coef.Add(coef, one(f.precision-1)), f.least + field - 1
}

// below is the last pattern whose number isn't above v: it is looked for, bit by bit, among all patterns up to infinity, which rise as their numbers do.
func (f format) below(v value) *big.Int {
	found, infinity := new(big.Int), f.infinity()
	for bit := f.width - 2; bit >= 0; bit-- {
		next := new(big.Int).SetBit(found, bit, 1)
		if next.Cmp(infinity) <= 0 && v.cmp(f.reading(next)) >= 0 {
			found = next
		}
	}
	return found
}

// half holds v against the middle between a pattern and the next one.
func (f format) half(v value, pattern *big.Int) int {
	low, exp := f.reading(pattern)
	high, over := f.reading(plus(pattern, 1))
	middle := new(big.Int).Lsh(high, uint(over-exp))
	return v.cmp(middle.Add(middle, low), exp-1)
}

// outward says whether a direction goes away from 0, whatever lies near.
func outward(direction int, sign bool) bool {
	return direction == api.Up && !sign || direction == api.Down && sign
}

// answer is what rounding is to come to.
type answer struct {
	pattern *big.Int
	flags   int
}

// rounded goes by DOC.md's words over the patterns beside v. It shares no code, and no arithmetic, with the package.
func (f format) rounded(v value, below *big.Int, half, direction int, sign bool) answer {
	infinity := f.infinity()
	nearest := direction == api.Even || direction == api.Away
	if below.Cmp(infinity) == 0 {
		if nearest || outward(direction, sign) {
			return answer{infinity, api.Overflow + api.Inexact}
		}
		return answer{plus(infinity, -1), api.Overflow + api.Inexact}
	}
	if v.cmp(f.reading(below)) == 0 {
		return answer{below, 0}
	}
	taken := below
	if outward(direction, sign) || nearest && (half > 0 || half == 0 && (direction == api.Away || below.Bit(0) == 1)) {
		taken = plus(below, 1)
	}
	switch {
	case taken.Cmp(infinity) == 0:
		return answer{taken, api.Overflow + api.Inexact}
	case below.Cmp(one(f.precision-1)) < 0:
		return answer{taken, api.Underflow + api.Inexact}
	}
	return answer{taken, api.Inexact}
}

func toBits(n *big.Int) api.Bits {
	var b api.Bits
	for i := range b {
		b[i] = new(big.Int).Rsh(n, uint(64*i)).Uint64()
	}
	return b
}

func toBig(words []uint64) *big.Int {
	sum := new(big.Int)
	for i := len(words) - 1; i >= 0; i-- {
		sum.Or(sum.Lsh(sum, 64), new(big.Int).SetUint64(words[i]))
	}
	return sum
}

func words(n *big.Int) []uint64 {
	var list []uint64
	for _, word := range n.Bits() {
		list = append(list, uint64(word))
	}
	return list
}

// signed is a pattern with the sign's bit.
func (f format) signed(pattern *big.Int, sign bool) api.Bits {
	if sign {
		pattern = new(big.Int).Or(pattern, one(f.width-1))
	}
	return toBits(pattern)
}

// check rounds v in every direction, with both signs, as each of the fractions, which all are v.
func (f format) check(t *testing.T, v value, ways ...value) {
	t.Helper()
	below := f.below(v)
	half := 0
	if below.Cmp(f.infinity()) < 0 {
		half = f.half(v, below)
	}
	for _, direction := range directions {
		for _, sign := range []bool{false, true} {
			want := f.rounded(v, below, half, direction, sign)
			for _, way := range append(ways, v) {
				b, flags, errno := round.Binary(f.number, direction, sign, words(way.num), words(way.den), way.exp)
				if b != f.signed(want.pattern, sign) || flags != want.flags || errno != api.OK {
					t.Errorf("format %d, direction %d, sign %v, %v: %x %d %v, not %x %d", f.number, direction, sign, way, b, flags, errno, want.pattern, want.flags)
				}
			}
		}
	}
}

// scattered is a word that follows from its seed alone.
func scattered(seed uint64) uint64 {
	seed = (seed + 1) * 0x9e3779b97f4a7c15
	word := (seed ^ seed>>30) * 0xbf58476d1ce4e5b9
	word = (word ^ word>>27) * 0x94d049bb133111eb
	return word ^ word>>31
}

// wide is so many bits that follow from the seed alone, the highest of them 1.
func wide(bits int, seed uint64) *big.Int {
	var list []uint64
	for i := range uint64(bits/64 + 1) {
		list = append(list, scattered(seed<<16+i))
	}
	n := toBig(list)
	n.Mod(n, one(bits-1))
	return n.Or(n, one(bits-1))
}

// patterns are finite ones without sign: all about 0, about the first with an exponent above 0, about the first of the next, and below infinity, and others, even and odd ones.
func (f format) patterns() []*big.Int {
	var list []*big.Int
	for more := range int64(5) {
		list = append(list, big.NewInt(more), plus(f.infinity(), -1-more))
		list = append(list, plus(one(f.precision-1), more-3), plus(one(f.precision), more-3), plus(one(f.width-3), more-3))
	}
	for seed := range uint64(12) {
		list = append(list, new(big.Int).Mod(wide(f.width, seed), f.infinity()), new(big.Int).Mod(wide(f.width, seed), one(f.precision-1)))
	}
	return list
}

// parts are what a unit of the last place is cut into, to come just beside a number.
func parts() []*big.Int {
	return []*big.Int{big.NewInt(3), one(64), one(300), plus(one(200), 1), new(big.Int).Exp(big.NewInt(10), big.NewInt(50), nil)}
}

// beside are the number of the pattern, the middle between it and the next one, and what lies just below and above both.
func (f format) beside(pattern, part *big.Int) []value {
	coef, exp := f.reading(pattern)
	var list []value
	for middle := range int64(2) {
		place := new(big.Int).Mul(plus(new(big.Int).Lsh(coef, 1), middle), part)
		for _, more := range []int64{-1, 0, 1} {
			if v := (value{plus(place, more), part, exp - 1}); v.num.Sign() > 0 {
				list = append(list, v)
			}
		}
	}
	return list
}

// ways are other fractions that are v: with a common factor, with bits of the exponent in num or den, and with the exponent 0.
func (v value) ways(seed uint64) []value {
	factor := wide(int(seed%150)+2, seed)
	shift := int(seed%1000) + 1
	list := []value{
		{new(big.Int).Mul(v.num, factor), new(big.Int).Mul(v.den, factor), v.exp},
		{new(big.Int).Lsh(v.num, uint(shift)), v.den, v.exp - shift},
		{v.num, new(big.Int).Lsh(v.den, uint(shift)), v.exp + shift},
	}
	if v.exp < 0 {
		return append(list, value{v.num, new(big.Int).Lsh(v.den, uint(-v.exp)), 0})
	}
	return append(list, value{new(big.Int).Lsh(v.num, uint(v.exp)), v.den, 0})
}

// P6.1, P6.3: each format, at its numbers, at the middles between them, and just beside both, written in several ways.
func TestP6_1_Beside(t *testing.T) {
	for _, f := range formats {
		t.Run(fmt.Sprint(f.number), func(t *testing.T) {
			t.Parallel()
			for i, pattern := range f.patterns() {
				for j, part := range parts() {
					for _, v := range f.beside(pattern, part) {
						f.check(t, v, v.ways(uint64(i*8+j))...)
					}
				}
			}
		})
	}
}

// P6.1: every number of Half, every middle, and what lies just beside them.
func TestP6_1_AllOfHalf(t *testing.T) {
	f := formats[0]
	for piece := range int64(8) {
		t.Run(fmt.Sprint(piece), func(t *testing.T) {
			t.Parallel()
			for pattern := big.NewInt(piece); pattern.Cmp(f.infinity()) < 0; pattern = plus(pattern, 8) {
				for _, v := range f.beside(pattern, big.NewInt(5)) {
					f.check(t, v)
				}
			}
		})
	}
}

// P6.1: fractions of all kinds of sizes, near every exponent that a format has and some way beyond.
func TestP6_1_Scattered(t *testing.T) {
	for _, f := range formats {
		t.Run(fmt.Sprint(f.number), func(t *testing.T) {
			t.Parallel()
			span := uint64(f.most - f.least + f.precision + 40)
			for seed := range uint64(1500) {
				top, bottom := int(scattered(seed)%400)+1, int(scattered(seed+5000)%400)+1
				exp := f.least - 20 + int(scattered(seed+9000)%span) - top + bottom
				f.check(t, value{wide(top, seed), wide(bottom, seed+1), exp})
			}
		})
	}
}

// P6.1: to the nearest, the language's own conversions come to the same.
func TestP6_1_Native(t *testing.T) {
	for seed := range uint64(4000) {
		num, den := wide(int(seed%300)+1, seed), wide(int(scattered(seed)%300)+1, seed+1)
		ratio := new(big.Rat).SetFrac(num, den)
		narrow, _ := ratio.Float32()
		broad, _ := ratio.Float64()
		b, _, _ := round.Binary(api.Single, api.Even, false, words(num), words(den), 0)
		if b != (api.Bits{uint64(math.Float32bits(narrow))}) {
			t.Errorf("%v: %x, not %v", ratio, b, narrow)
		}
		b, _, _ = round.Binary(api.Double, api.Even, false, words(num), words(den), 0)
		if b != (api.Bits{math.Float64bits(broad)}) {
			t.Errorf("%v: %x, not %v", ratio, b, broad)
		}
	}
}

// P6.3: said by the answers alone: Up and Down are neighbours on both sides, the others are among them; or all are the number, without flags.
func TestP6_3_BothSides(t *testing.T) {
	for _, f := range formats {
		for seed := range uint64(300) {
			v := value{wide(int(seed)+1, seed), wide(int(scattered(seed)%300)+1, seed+7), int(seed%20) - 10}
			if f.below(v).Cmp(plus(f.infinity(), -1)) >= 0 {
				continue
			}
			taken := map[int]*big.Int{}
			flagged := 0
			for _, direction := range directions {
				b, flags, _ := round.Binary(f.number, direction, false, words(v.num), words(v.den), v.exp)
				taken[direction] = toBig(b[:])
				flagged |= flags
			}
			up, down := taken[api.Up], taken[api.Down]
			exact := v.cmp(f.reading(down)) == 0
			if exact != (up.Cmp(down) == 0) || exact != (flagged == 0) || v.cmp(f.reading(down)) < 0 || v.cmp(f.reading(up)) > 0 {
				t.Errorf("format %d, %v: %x %x %d", f.number, v, down, up, flagged)
			}
			if !exact && plus(down, 1).Cmp(up) != 0 {
				t.Errorf("format %d, %v: %x and %x are no neighbours", f.number, v, down, up)
			}
			for _, direction := range directions {
				if one := taken[direction]; one.Cmp(up) != 0 && one.Cmp(down) != 0 {
					t.Errorf("format %d, %v, direction %d: %x", f.number, v, direction, one)
				}
			}
			if taken[api.Zero].Cmp(down) != 0 {
				t.Errorf("format %d, %v: Zero is %x", f.number, v, taken[api.Zero])
			}
		}
	}
}

// P6.2: Scaled is Binary of coef and 1.
func TestP6_2_Scaled(t *testing.T) {
	ones := api.Bits{math.MaxUint64, math.MaxUint64, math.MaxUint64, math.MaxUint64}
	coefs := []api.Bits{{}, {1}, {2}, {3}, ones, {0, 0, 0, 1 << 63}, {1, 0, 0, 1 << 63}, {0, 1}, {0, 0, 1}, {0, 0, 0, 1}, {math.MaxUint64}}
	for seed := range uint64(30) {
		coefs = append(coefs, toBits(wide(int(seed)*8+20, seed)))
	}
	for _, f := range formats {
		exps := []int{0, 1, -1, math.MinInt, math.MaxInt, f.least, f.most}
		for _, near := range []int{f.least, f.most, f.least - 64, f.least - 241, f.least - 256, f.most - 16} {
			exps = append(exps, near-2, near-1, near, near+1, near+2)
		}
		for _, coef := range coefs {
			for _, exp := range exps {
				for _, direction := range directions {
					for _, sign := range []bool{false, true} {
						want, wantFlags, _ := round.Binary(f.number, direction, sign, coef[:], []uint64{1}, exp)
						b, flags, errno := round.Scaled(f.number, direction, sign, coef, exp)
						if b != want || flags != wantFlags || errno != api.OK {
							t.Errorf("format %d, direction %d, %v %x*2^%d: %x %d %v", f.number, direction, sign, coef, exp, b, flags, errno)
						}
					}
				}
				if exp > math.MinInt && exp < math.MaxInt && coef != (api.Bits{}) {
					f.check(t, value{toBig(coef[:]), big.NewInt(1), exp})
				}
			}
		}
	}
}
