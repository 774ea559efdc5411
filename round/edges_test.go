package round_test

import (
	"fmt"
	"math"
	"math/big"
	"slices"
	"testing"

	"caliper/api"
	"caliper/round"
)

const (
	inexact   = api.Inexact
	underflow = api.Underflow + api.Inexact
	overflow  = api.Overflow + api.Inexact
)

// others are numbers of formats that aren't binary, and numbers of none.
var others = []int{7, 8, 9, 10, 11, 12, 0, 13, -1, -3, 257, 1<<32 + 3, math.MinInt, math.MinInt + 4, math.MaxInt}

// nowhere are numbers of no direction.
var nowhere = []int{-1, 5, 6, 256, 1 << 32, 1<<32 + 2, math.MinInt, math.MaxInt}

// row is a fraction of small numbers, and what it is in each of the five directions, in their order: as it is, and with the sign.
type row struct {
	number      int
	num, den    uint64
	exp         int
	plus, minus [5]uint64
	pluses      [5]int
	minuses     [5]int
}

// each says one flag sum for all directions.
func each(flags int) [5]int { return [5]int{flags, flags, flags, flags, flags} }

// The rows are worked out by hand from DOC.md's words: they don't hang on the oracle.
var written = []row{
	// The chapter's examples.
	{number: api.Single, num: 1, den: 3, plus: [5]uint64{0x3eaaaaab, 0x3eaaaaab, 0x3eaaaaaa, 0x3eaaaaab, 0x3eaaaaaa}, minus: [5]uint64{0xbeaaaaab, 0xbeaaaaab, 0xbeaaaaaa, 0xbeaaaaaa, 0xbeaaaaab}, pluses: each(inexact), minuses: each(inexact)},
	{number: api.Half, num: 1, den: 1, exp: 200, plus: [5]uint64{0x7c00, 0x7c00, 0x7bff, 0x7c00, 0x7bff}, minus: [5]uint64{0xfc00, 0xfc00, 0xfbff, 0xfbff, 0xfc00}, pluses: each(overflow), minuses: each(overflow)},
	{number: api.Half, num: 1, den: 1, exp: -200, plus: [5]uint64{0, 0, 0, 1, 0}, minus: [5]uint64{0x8000, 0x8000, 0x8000, 0x8000, 0x8001}, pluses: each(underflow), minuses: each(underflow)},
	// A number of the format, and it with another fraction.
	{number: api.Half, num: 1, den: 1, plus: [5]uint64{0x3c00, 0x3c00, 0x3c00, 0x3c00, 0x3c00}, minus: [5]uint64{0xbc00, 0xbc00, 0xbc00, 0xbc00, 0xbc00}},
	{number: api.Half, num: 21, den: 42, exp: 1, plus: [5]uint64{0x3c00, 0x3c00, 0x3c00, 0x3c00, 0x3c00}, minus: [5]uint64{0xbc00, 0xbc00, 0xbc00, 0xbc00, 0xbc00}},
	// The middle above an even neighbour, and above an odd one.
	{number: api.Half, num: 2049, den: 1, plus: [5]uint64{0x6800, 0x6801, 0x6800, 0x6801, 0x6800}, minus: [5]uint64{0xe800, 0xe801, 0xe800, 0xe800, 0xe801}, pluses: each(inexact), minuses: each(inexact)},
	{number: api.Half, num: 2051, den: 1, plus: [5]uint64{0x6802, 0x6802, 0x6801, 0x6802, 0x6801}, minus: [5]uint64{0xe802, 0xe802, 0xe801, 0xe801, 0xe802}, pluses: each(inexact), minuses: each(inexact)},
	// Just below the middle and just above it.
	{number: api.Half, num: 20509999, den: 10000, plus: [5]uint64{0x6801, 0x6801, 0x6801, 0x6802, 0x6801}, minus: [5]uint64{0xe801, 0xe801, 0xe801, 0xe801, 0xe802}, pluses: each(inexact), minuses: each(inexact)},
	{number: api.Half, num: 20490001, den: 10000, plus: [5]uint64{0x6801, 0x6801, 0x6800, 0x6801, 0x6800}, minus: [5]uint64{0xe801, 0xe801, 0xe800, 0xe800, 0xe801}, pluses: each(inexact), minuses: each(inexact)},
	// What is rounded up to 2^P: 4095 lies in the middle of 4094 and 4096.
	{number: api.Half, num: 4095, den: 1, plus: [5]uint64{0x6c00, 0x6c00, 0x6bff, 0x6c00, 0x6bff}, minus: [5]uint64{0xec00, 0xec00, 0xebff, 0xebff, 0xec00}, pluses: each(inexact), minuses: each(inexact)},
	// The least of all, half of it, and just beside half of it.
	{number: api.Half, num: 1, den: 1, exp: -24, plus: [5]uint64{1, 1, 1, 1, 1}, minus: [5]uint64{0x8001, 0x8001, 0x8001, 0x8001, 0x8001}},
	{number: api.Half, num: 1, den: 1, exp: -25, plus: [5]uint64{0, 1, 0, 1, 0}, minus: [5]uint64{0x8000, 0x8001, 0x8000, 0x8000, 0x8001}, pluses: each(underflow), minuses: each(underflow)},
	{number: api.Half, num: 4999, den: 10000, exp: -24, plus: [5]uint64{0, 0, 0, 1, 0}, minus: [5]uint64{0x8000, 0x8000, 0x8000, 0x8000, 0x8001}, pluses: each(underflow), minuses: each(underflow)},
	{number: api.Half, num: 5001, den: 10000, exp: -24, plus: [5]uint64{1, 1, 0, 1, 0}, minus: [5]uint64{0x8001, 0x8001, 0x8000, 0x8000, 0x8001}, pluses: each(underflow), minuses: each(underflow)},
	// A middle among the numbers with exponent 0.
	{number: api.Half, num: 3, den: 1, exp: -25, plus: [5]uint64{2, 2, 1, 2, 1}, minus: [5]uint64{0x8002, 0x8002, 0x8001, 0x8001, 0x8002}, pluses: each(underflow), minuses: each(underflow)},
	{number: api.Half, num: 5, den: 1, exp: -25, plus: [5]uint64{2, 3, 2, 3, 2}, minus: [5]uint64{0x8002, 0x8003, 0x8002, 0x8002, 0x8003}, pluses: each(underflow), minuses: each(underflow)},
	// 2^(P - 1 + LEAST) by itself, what is rounded to it from below, which underflows, and from above, which doesn't.
	{number: api.Half, num: 1, den: 1, exp: -14, plus: [5]uint64{0x400, 0x400, 0x400, 0x400, 0x400}, minus: [5]uint64{0x8400, 0x8400, 0x8400, 0x8400, 0x8400}},
	{number: api.Half, num: 2047, den: 2048, exp: -14, plus: [5]uint64{0x400, 0x400, 0x3ff, 0x400, 0x3ff}, minus: [5]uint64{0x8400, 0x8400, 0x83ff, 0x83ff, 0x8400}, pluses: each(underflow), minuses: each(underflow)},
	{number: api.Half, num: 99999, den: 100000, exp: -14, plus: [5]uint64{0x400, 0x400, 0x3ff, 0x400, 0x3ff}, minus: [5]uint64{0x8400, 0x8400, 0x83ff, 0x83ff, 0x8400}, pluses: each(underflow), minuses: each(underflow)},
	{number: api.Half, num: 100001, den: 100000, exp: -14, plus: [5]uint64{0x400, 0x400, 0x400, 0x401, 0x400}, minus: [5]uint64{0x8400, 0x8400, 0x8400, 0x8400, 0x8401}, pluses: each(inexact), minuses: each(inexact)},
	{number: api.Half, num: 1023, den: 1, exp: -24, plus: [5]uint64{0x3ff, 0x3ff, 0x3ff, 0x3ff, 0x3ff}, minus: [5]uint64{0x83ff, 0x83ff, 0x83ff, 0x83ff, 0x83ff}},
	// The greatest finite number, the middle between it and what would follow, just beside that, and what would follow.
	{number: api.Half, num: 65504, den: 1, plus: [5]uint64{0x7bff, 0x7bff, 0x7bff, 0x7bff, 0x7bff}, minus: [5]uint64{0xfbff, 0xfbff, 0xfbff, 0xfbff, 0xfbff}},
	{number: api.Half, num: 65519, den: 1, plus: [5]uint64{0x7bff, 0x7bff, 0x7bff, 0x7c00, 0x7bff}, minus: [5]uint64{0xfbff, 0xfbff, 0xfbff, 0xfbff, 0xfc00}, pluses: [5]int{inexact, inexact, inexact, overflow, inexact}, minuses: [5]int{inexact, inexact, inexact, inexact, overflow}},
	{number: api.Half, num: 65520, den: 1, plus: [5]uint64{0x7c00, 0x7c00, 0x7bff, 0x7c00, 0x7bff}, minus: [5]uint64{0xfc00, 0xfc00, 0xfbff, 0xfbff, 0xfc00}, pluses: [5]int{overflow, overflow, inexact, overflow, inexact}, minuses: [5]int{overflow, overflow, inexact, inexact, overflow}},
	{number: api.Half, num: 65521, den: 1, plus: [5]uint64{0x7c00, 0x7c00, 0x7bff, 0x7c00, 0x7bff}, minus: [5]uint64{0xfc00, 0xfc00, 0xfbff, 0xfbff, 0xfc00}, pluses: [5]int{overflow, overflow, inexact, overflow, inexact}, minuses: [5]int{overflow, overflow, inexact, inexact, overflow}},
	{number: api.Half, num: 65536, den: 1, plus: [5]uint64{0x7c00, 0x7c00, 0x7bff, 0x7c00, 0x7bff}, minus: [5]uint64{0xfc00, 0xfc00, 0xfbff, 0xfbff, 0xfc00}, pluses: each(overflow), minuses: each(overflow)},
	// Brain, Single and Double, at one and just beside it.
	{number: api.Brain, num: 257, den: 256, plus: [5]uint64{0x3f80, 0x3f81, 0x3f80, 0x3f81, 0x3f80}, minus: [5]uint64{0xbf80, 0xbf81, 0xbf80, 0xbf80, 0xbf81}, pluses: each(inexact), minuses: each(inexact)},
	{number: api.Single, num: 1<<24 + 1, den: 1 << 24, plus: [5]uint64{0x3f800000, 0x3f800001, 0x3f800000, 0x3f800001, 0x3f800000}, minus: [5]uint64{0xbf800000, 0xbf800001, 0xbf800000, 0xbf800000, 0xbf800001}, pluses: each(inexact), minuses: each(inexact)},
	{number: api.Double, num: 1<<53 + 3, den: 1 << 53, plus: [5]uint64{0x3ff0000000000002, 0x3ff0000000000002, 0x3ff0000000000001, 0x3ff0000000000002, 0x3ff0000000000001}, minus: [5]uint64{0xbff0000000000002, 0xbff0000000000002, 0xbff0000000000001, 0xbff0000000000001, 0xbff0000000000002}, pluses: each(inexact), minuses: each(inexact)},
}

// P6.1: rows written out by hand.
func TestP6_1_Written(t *testing.T) {
	for _, c := range written {
		for i, direction := range directions {
			b, flags, errno := round.Binary(c.number, direction, false, []uint64{c.num}, []uint64{c.den}, c.exp)
			if b != (api.Bits{c.plus[i]}) || flags != c.pluses[i] || errno != api.OK {
				t.Errorf("%d: %d/%d*2^%d, direction %d: %x %d %v", c.number, c.num, c.den, c.exp, direction, b, flags, errno)
			}
			b, flags, errno = round.Binary(c.number, direction, true, []uint64{c.num}, []uint64{c.den}, c.exp)
			if b != (api.Bits{c.minus[i]}) || flags != c.minuses[i] || errno != api.OK {
				t.Errorf("%d: -%d/%d*2^%d, direction %d: %x %d %v", c.number, c.num, c.den, c.exp, direction, b, flags, errno)
			}
		}
	}
}

// P6.1: the wide formats, said without the oracle.
func TestP6_1_Wide(t *testing.T) {
	third := uint64(0x5555555555555555)
	for _, c := range []struct {
		number, direction int
		num, den          []uint64
		exp               int
		b                 api.Bits
		flags             int
	}{
		{api.Quad, api.Zero, []uint64{1}, []uint64{3}, 0, api.Bits{third, 0x3ffd555555555555}, inexact},
		{api.Quad, api.Up, []uint64{1}, []uint64{3}, 0, api.Bits{third + 1, 0x3ffd555555555555}, inexact},
		{api.Quad, api.Even, []uint64{0, 1}, []uint64{1}, -64, api.Bits{0, 0x3fff000000000000}, 0},
		{api.Quad, api.Even, []uint64{1}, []uint64{1}, 16384, api.Bits{0, 0x7fff000000000000}, overflow},
		{api.Quad, api.Down, []uint64{1}, []uint64{1}, 16384, api.Bits{math.MaxUint64, 0x7ffeffffffffffff}, overflow},
		{api.Quad, api.Even, []uint64{1}, []uint64{1}, -16494, api.Bits{1}, 0},
		{api.Quad, api.Away, []uint64{1}, []uint64{1}, -16495, api.Bits{1}, underflow},
		{api.Octo, api.Zero, []uint64{1}, []uint64{3}, 0, api.Bits{third, third, third, 0x3ffd555555555555}, inexact},
		{api.Octo, api.Up, []uint64{1}, []uint64{3}, 0, api.Bits{third + 1, third, third, 0x3ffd555555555555}, inexact},
		{api.Octo, api.Even, []uint64{1}, []uint64{1}, 0, api.Bits{0, 0, 0, 0x3fff000000000000}, 0},
		{api.Octo, api.Even, []uint64{1}, []uint64{1}, 16384, api.Bits{0, 0, 0, 0x7fff000000000000}, overflow},
		{api.Octo, api.Zero, []uint64{1}, []uint64{1}, 16384, api.Bits{math.MaxUint64, math.MaxUint64, math.MaxUint64, 0x7ffeffffffffffff}, overflow},
		{api.Octo, api.Even, []uint64{1}, []uint64{1}, -16622, api.Bits{1}, 0},
		{api.Octo, api.Even, []uint64{1}, []uint64{1}, -16623, api.Bits{}, underflow},
		{api.Octo, api.Up, []uint64{1}, []uint64{1}, -16623, api.Bits{1}, underflow},
	} {
		b, flags, errno := round.Binary(c.number, c.direction, false, c.num, c.den, c.exp)
		if b != c.b || flags != c.flags || errno != api.OK {
			t.Errorf("%v: %x %d %v", c, b, flags, errno)
		}
	}
}

// P6.1: of num 0 a nought with that sign, and no flags, whatever the exponent.
func TestP6_1_Nought(t *testing.T) {
	for _, f := range formats {
		for _, direction := range directions {
			for _, num := range [][]uint64{nil, {}, {0}, make([]uint64, 900)} {
				for _, exp := range []int{0, 5, -5, f.least, f.most, math.MinInt, math.MaxInt} {
					for _, sign := range []bool{false, true} {
						b, flags, errno := round.Binary(f.number, direction, sign, num, []uint64{3, 0}, exp)
						if b != f.signed(new(big.Int), sign) || flags != 0 || errno != api.OK {
							t.Errorf("format %d, direction %d, %v, %d noughts, %d: %x %d %v", f.number, direction, sign, len(num), exp, b, flags, errno)
						}
					}
				}
			}
		}
	}
}

// P6.1: exponents up to the ends of int, beside numbers of every size.
func TestP6_1_Exponents(t *testing.T) {
	sizes := [][]uint64{{1}, {math.MaxUint64}, {0, 7}, words(one(51199)), words(plus(one(51200), -1))}
	far := []int{1 << 17, 1 << 30, 1 << 31, 1 << 32, 1<<32 + 1, 1 << 62, math.MaxInt - 51200, math.MaxInt - 1, math.MaxInt}
	for _, f := range formats {
		least, largest := big.NewInt(1), plus(f.infinity(), -1)
		for _, num := range sizes {
			for _, den := range sizes {
				for _, exp := range far {
					for _, sign := range []bool{false, true} {
						for _, direction := range directions {
							want := answer{f.infinity(), overflow}
							if direction == api.Zero || direction == api.Up && sign || direction == api.Down && !sign {
								want.pattern = largest
							}
							expect(t, f, want, direction, sign, num, den, exp)
							want = answer{new(big.Int), underflow}
							if outward(direction, sign) {
								want.pattern = least
							}
							expect(t, f, want, direction, sign, num, den, -exp)
							expect(t, f, want, direction, sign, num, den, -exp-1)
						}
					}
				}
			}
		}
	}
}

// expect rounds once.
func expect(t *testing.T, f format, want answer, direction int, sign bool, num, den []uint64, exp int) {
	t.Helper()
	b, flags, errno := round.Binary(f.number, direction, sign, num, den, exp)
	if b != f.signed(want.pattern, sign) || flags != want.flags || errno != api.OK {
		t.Errorf("format %d, direction %d, %v, sizes %d and %d, exp %d: %x %d %v", f.number, direction, sign, len(num), len(den), exp, b, flags, errno)
	}
}

// P6.1: numbers of 800 words, above and below the line, with the exponents that bring them about the ends of the format and about one.
func TestP6_1_Sizes(t *testing.T) {
	long := []*big.Int{one(51199), plus(one(51199), 1), plus(one(51200), -1), wide(51200, 3)}
	short := []*big.Int{big.NewInt(1), big.NewInt(3), plus(one(64), -1)}
	for _, f := range formats {
		t.Run(fmt.Sprint(f.number), func(t *testing.T) {
			t.Parallel()
			for _, place := range []int{f.least - 2, f.least - 1, f.least, f.least + f.precision - 2, 0, f.most + f.precision - 2, f.most + f.precision - 1, f.most + f.precision} {
				for _, n := range long {
					for _, m := range short {
						f.check(t, value{n, m, place - 51199})
						f.check(t, value{m, n, place + 51199})
					}
					f.check(t, value{n, long[3], place})
				}
			}
		})
	}
}

// P6.1: noughts above the highest word mean nothing, and don't count as size.
func TestP6_1_Noughts(t *testing.T) {
	for _, f := range formats {
		for _, more := range []int{1, 2, 800, 3000} {
			num := append([]uint64{5}, make([]uint64, more)...)
			den := append([]uint64{3}, make([]uint64, more)...)
			for _, direction := range directions {
				want, wantFlags, _ := round.Binary(f.number, direction, true, []uint64{5}, []uint64{3}, -2)
				b, flags, errno := round.Binary(f.number, direction, true, num, den, -2)
				if b != want || flags != wantFlags || errno != api.OK {
					t.Error(f.number, direction, more, b, flags, errno)
				}
			}
		}
	}
}

// sized is a natural of so many words, the highest of them 1.
func sized(size int) []uint64 { return append(make([]uint64, size-1), 1) }

// P6.1, R5, R6: errors, the one that is named first, with nothing beside them.
func TestP6_1_Errors(t *testing.T) {
	refused := func(want api.Errno, number, direction int, num, den []uint64) {
		t.Helper()
		for _, exp := range []int{0, math.MinInt, math.MaxInt} {
			for _, sign := range []bool{false, true} {
				b, flags, errno := round.Binary(number, direction, sign, num, den, exp)
				if b != (api.Bits{}) || flags != 0 || errno != want {
					t.Errorf("%d %d, sizes %d and %d: %x %d %v", number, direction, len(num), len(den), b, flags, errno)
				}
			}
		}
	}
	for _, number := range others {
		refused(api.ErrArg, number, api.Even, []uint64{1}, []uint64{1})
		refused(api.ErrArg, number, api.Zero, nil, []uint64{1})
		refused(api.ErrArg, number, api.Up, sized(801), sized(801))
	}
	for _, f := range formats {
		for _, direction := range nowhere {
			refused(api.ErrArg, f.number, direction, []uint64{1}, []uint64{1})
			refused(api.ErrArg, f.number, direction, nil, []uint64{1})
			refused(api.ErrArg, f.number, direction, sized(801), sized(801))
		}
		for _, direction := range directions {
			for _, den := range [][]uint64{nil, {}, {0}, {0, 0, 0}, make([]uint64, 900)} {
				refused(api.ErrArg, f.number, direction, []uint64{1}, den)
				refused(api.ErrArg, f.number, direction, nil, den)
				refused(api.ErrArg, f.number, direction, sized(801), den)
			}
			refused(api.ErrLong, f.number, direction, sized(801), []uint64{1})
			refused(api.ErrLong, f.number, direction, []uint64{1}, sized(801))
			refused(api.ErrLong, f.number, direction, nil, sized(801))
			refused(api.ErrLong, f.number, direction, sized(801), sized(801))
			refused(api.ErrLong, f.number, direction, sized(5000), sized(800))
		}
	}
}

// P6.1: 800 words are still taken.
func TestP6_1_Longest(t *testing.T) {
	for _, f := range formats {
		for _, direction := range directions {
			one, _, _ := round.Binary(f.number, direction, false, []uint64{1}, []uint64{1}, 0)
			for _, pair := range [][2][]uint64{{sized(800), sized(800)}, {append(sized(800), 0), append(sized(800), 0, 0)}} {
				b, flags, errno := round.Binary(f.number, direction, false, pair[0], pair[1], 0)
				if b != one || flags != 0 || errno != api.OK {
					t.Error(f.number, direction, b, flags, errno)
				}
			}
		}
	}
}

// P6.2: Scaled's errors, with nothing beside them.
func TestP6_2_Errors(t *testing.T) {
	refused := func(number, direction int) {
		t.Helper()
		for _, coef := range []api.Bits{{}, {1}, {math.MaxUint64, math.MaxUint64, math.MaxUint64, math.MaxUint64}} {
			b, flags, errno := round.Scaled(number, direction, true, coef, 1)
			if b != (api.Bits{}) || flags != 0 || errno != api.ErrArg {
				t.Error(number, direction, coef, b, flags, errno)
			}
		}
	}
	for _, number := range others {
		refused(number, api.Even)
	}
	for _, direction := range nowhere {
		refused(api.Half, direction)
		refused(api.Octo, direction)
	}
}

// P6.2: said without Binary.
func TestP6_2_Written(t *testing.T) {
	ones := api.Bits{math.MaxUint64, math.MaxUint64, math.MaxUint64, math.MaxUint64}
	for _, c := range []struct {
		number, direction int
		sign              bool
		coef              api.Bits
		exp               int
		b                 api.Bits
		flags             int
	}{
		{api.Half, api.Even, false, api.Bits{}, 9, api.Bits{}, 0},
		{api.Half, api.Even, true, api.Bits{}, math.MaxInt, api.Bits{0x8000}, 0},
		{api.Octo, api.Down, true, api.Bits{}, math.MinInt, api.Bits{0, 0, 0, 1 << 63}, 0},
		{api.Half, api.Even, true, api.Bits{1}, 0, api.Bits{0xbc00}, 0},
		{api.Double, api.Even, true, api.Bits{3}, -1, api.Bits{0xbff8000000000000}, 0},
		{api.Half, api.Even, false, api.Bits{0, 0, 0, 1 << 63}, -255, api.Bits{0x3c00}, 0},
		{api.Single, api.Even, false, ones, -256, api.Bits{0x3f800000}, inexact},
		{api.Single, api.Zero, false, ones, -256, api.Bits{0x3f7fffff}, inexact},
		{api.Octo, api.Zero, false, ones, -256, api.Bits{math.MaxUint64, math.MaxUint64, math.MaxUint64, 0x3ffeffffffffffff}, inexact},
		{api.Octo, api.Even, false, ones, -256, api.Bits{0, 0, 0, 0x3fff000000000000}, inexact},
		{api.Half, api.Up, true, ones, 0, api.Bits{0xfbff}, overflow},
		{api.Half, api.Down, true, ones, -1000, api.Bits{0x8001}, underflow},
	} {
		b, flags, errno := round.Scaled(c.number, c.direction, c.sign, c.coef, c.exp)
		if b != c.b || flags != c.flags || errno != api.OK {
			t.Errorf("%v: %x %d %v", c, b, flags, errno)
		}
	}
}

// roomy is a in the beginning of a list with spare room, that whole list, and a copy of it.
func roomy(a []uint64) (part, whole, before []uint64) {
	whole = append(slices.Clone(a), 11, 12, 13, 14)
	return whole[:len(a)], whole, slices.Clone(whole)
}

// R3: arguments stay as they are, their spare room too; one list may be both.
func TestMemory(t *testing.T) {
	for _, f := range formats {
		for _, exp := range []int{-60000, -300, -1, 0, 1, 300, 60000} {
			for _, pair := range [][2][]uint64{{{7, 9}, {3}}, {{3}, {7, 9}}, {{1, 0}, {3, 0, 0}}, {sized(300), {5}}, {{5}, sized(300)}, {{0}, {1}}, {{1}, {0}}} {
				num, wholeNum, beforeNum := roomy(pair[0])
				den, wholeDen, beforeDen := roomy(pair[1])
				for _, direction := range directions {
					round.Binary(f.number, direction, true, num, den, exp)
					round.Binary(f.number, direction, false, num, num, exp)
				}
				if !slices.Equal(wholeNum, beforeNum) || !slices.Equal(wholeDen, beforeDen) {
					t.Error(f.number, exp, pair)
				}
			}
		}
		b, flags, errno := round.Binary(f.number, api.Even, true, []uint64{7, 9}, []uint64{7, 9}, 3)
		same := []uint64{7, 9}
		twice, twiceFlags, twiceErrno := round.Binary(f.number, api.Even, true, same, same, 3)
		if b != twice || flags != twiceFlags || errno != twiceErrno {
			t.Error(f.number, twice, twiceFlags, twiceErrno)
		}
	}
}
