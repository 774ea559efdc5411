package decround_test

import (
	"math"
	"math/big"
	"slices"
	"strconv"
	"strings"
	"testing"

	"caliper/api"
	"caliper/decround"
)

// row is a fraction of whole numbers, and what it is, as digits, e and an exponent, or inf, in each of the five directions, in their order, with the flags.
type row struct {
	number    int
	num, den  string
	exp, want int
	taken     [5]string
	flags     [5]int
}

// all says one answer for all directions.
func all(text string) [5]string { return [5]string{text, text, text, text, text} }

// with says one flag sum for all directions.
func with(flags int) [5]int { return [5]int{flags, flags, flags, flags, flags} }

// The rows are worked out by hand from DOC.md's words: they don't hang on the oracle.
var written = []row{
	// The chapter's example.
	{7, "1", "3", 0, 0, [5]string{"3333333e-7", "3333333e-7", "3333333e-7", "3333334e-7", "3333333e-7"}, with(inexact)},
	// Numbers that come out exactly, with members on one side, on both, and one alone.
	{7, "1", "1", 0, 0, all("1e0"), with(0)},
	{7, "1", "1", 0, 1, all("1e0"), with(0)},
	{7, "1", "1", 0, -3, all("1000e-3"), with(0)},
	{7, "1", "1", 0, -6, all("1000000e-6"), with(0)},
	{7, "1", "1", 0, -7, all("1000000e-6"), with(0)},
	{7, "1", "1", 0, math.MinInt, all("1000000e-6"), with(0)},
	{7, "1", "1", 0, math.MaxInt, all("1e0"), with(0)},
	{7, "1", "2", 0, 0, all("5e-1"), with(0)},
	{7, "1", "8", 2, 0, all("125e-1"), with(0)},
	{7, "1200", "1", 3, 3, all("1200e3"), with(0)},
	{7, "1200", "1", 3, 4, all("120e4"), with(0)},
	{7, "1200", "1", 3, 5, all("12e5"), with(0)},
	{7, "1200", "1", 3, 6, all("12e5"), with(0)},
	{7, "1200", "1", 3, 0, all("1200000e0"), with(0)},
	{7, "1200", "1", 3, -1, all("1200000e0"), with(0)},
	{7, "1234567", "1", 0, 5, all("1234567e0"), with(0)},
	{7, "1234567", "1", 0, -5, all("1234567e0"), with(0)},
	{7, "12345670", "1", 0, 0, all("1234567e1"), with(0)},
	{7, "100000000000000000000", "1", 0, 0, all("1000000e14"), with(0)},
	{7, "100000000000000000000", "1", 0, 17, all("1000e17"), with(0)},
	{7, "100000000000000000000", "1", 0, 50, all("1e20"), with(0)},
	// Members at the bounds of the exponent.
	{7, "1", "1", 95, 95, all("100000e90"), with(0)},
	{7, "1", "1", 96, 96, all("1000000e90"), with(0)},
	{7, "1", "1", 90, 91, all("1e90"), with(0)},
	{7, "20", "1", 90, 93, all("20e90"), with(0)},
	{7, "20", "1", 89, 93, all("2e90"), with(0)},
	{7, "9999999", "1", 90, 0, all("9999999e90"), with(0)},
	{7, "10", "1", -102, -102, all("1e-101"), with(0)},
	{7, "100", "1", -102, -200, all("10e-101"), with(0)},
	{7, "100", "1", -102, -100, all("1e-100"), with(0)},
	{7, "100", "1", -102, 0, all("1e-100"), with(0)},
	{7, "1", "1", -101, math.MinInt, all("1e-101"), with(0)},
	// Below the middle, at it, with an even and an odd one below, and above it.
	{7, "12345678", "1", 0, 0, [5]string{"1234568e1", "1234568e1", "1234567e1", "1234568e1", "1234567e1"}, with(inexact)},
	{7, "12345674", "1", 0, 0, [5]string{"1234567e1", "1234567e1", "1234567e1", "1234568e1", "1234567e1"}, with(inexact)},
	{7, "12345675", "1", 0, 0, [5]string{"1234568e1", "1234568e1", "1234567e1", "1234568e1", "1234567e1"}, with(inexact)},
	{7, "12345665", "1", 0, 0, [5]string{"1234566e1", "1234567e1", "1234566e1", "1234567e1", "1234566e1"}, with(inexact)},
	{7, "123456649999999999999999999999", "1", -22, 5, [5]string{"1234566e1", "1234566e1", "1234566e1", "1234567e1", "1234566e1"}, with(inexact)},
	{7, "123456650000000000000000000001", "1", -22, 5, [5]string{"1234567e1", "1234567e1", "1234566e1", "1234567e1", "1234566e1"}, with(inexact)},
	// What isn't exact doesn't look at want: noughts at the end stay.
	{7, "12000001", "1", 0, 9, [5]string{"1200000e1", "1200000e1", "1200000e1", "1200001e1", "1200000e1"}, with(inexact)},
	// Nines that carry on to a new digit.
	{7, "99999994", "1", 0, 0, [5]string{"9999999e1", "9999999e1", "9999999e1", "1000000e2", "9999999e1"}, with(inexact)},
	{7, "99999995", "1", 0, 0, [5]string{"1000000e2", "1000000e2", "9999999e1", "1000000e2", "9999999e1"}, with(inexact)},
	{7, "99999999", "1", 0, 0, [5]string{"1000000e2", "1000000e2", "9999999e1", "1000000e2", "9999999e1"}, with(inexact)},
	// Half of the least number, and just beside that.
	{7, "5", "1", -102, 0, [5]string{"0e-101", "1e-101", "0e-101", "1e-101", "0e-101"}, with(underflow)},
	{7, "49999", "1", -106, 0, [5]string{"0e-101", "0e-101", "0e-101", "1e-101", "0e-101"}, with(underflow)},
	{7, "50001", "1", -106, 0, [5]string{"1e-101", "1e-101", "0e-101", "1e-101", "0e-101"}, with(underflow)},
	{7, "1", "1", -102, 0, [5]string{"0e-101", "0e-101", "0e-101", "1e-101", "0e-101"}, with(underflow)},
	{7, "1", "1", -103, 0, [5]string{"0e-101", "0e-101", "0e-101", "1e-101", "0e-101"}, with(underflow)},
	{7, "9", "1", -103, 0, [5]string{"0e-101", "0e-101", "0e-101", "1e-101", "0e-101"}, with(underflow)},
	{7, "1", "1", -1000000, 0, [5]string{"0e-101", "0e-101", "0e-101", "1e-101", "0e-101"}, with(underflow)},
	// Below 10^(P - 1 + LEAST), which is 10^-95: exact, inexact, and rounded up to it.
	{7, "15", "1", -102, 0, [5]string{"2e-101", "2e-101", "1e-101", "2e-101", "1e-101"}, with(underflow)},
	{7, "25", "1", -102, 0, [5]string{"2e-101", "3e-101", "2e-101", "3e-101", "2e-101"}, with(underflow)},
	{7, "999999", "1", -101, 0, all("999999e-101"), with(0)},
	{7, "9999994", "1", -102, 0, [5]string{"999999e-101", "999999e-101", "999999e-101", "1000000e-101", "999999e-101"}, with(underflow)},
	{7, "9999995", "1", -102, 0, [5]string{"1000000e-101", "1000000e-101", "999999e-101", "1000000e-101", "999999e-101"}, with(underflow)},
	{7, "99999999", "1", -103, 0, [5]string{"1000000e-101", "1000000e-101", "999999e-101", "1000000e-101", "999999e-101"}, with(underflow)},
	{7, "1", "1", -95, -101, all("1000000e-101"), with(0)},
	{7, "10000001", "1", -102, 0, [5]string{"1000000e-101", "1000000e-101", "1000000e-101", "1000001e-101", "1000000e-101"}, with(inexact)},
	// The greatest number, what still is rounded to it, and what isn't.
	{7, "99999994", "1", 89, 0, [5]string{"9999999e90", "9999999e90", "9999999e90", "inf", "9999999e90"}, [5]int{inexact, inexact, inexact, overflow, inexact}},
	{7, "99999995", "1", 89, 0, [5]string{"inf", "inf", "9999999e90", "inf", "9999999e90"}, [5]int{overflow, overflow, inexact, overflow, inexact}},
	{7, "99999999", "1", 89, 0, [5]string{"inf", "inf", "9999999e90", "inf", "9999999e90"}, [5]int{overflow, overflow, inexact, overflow, inexact}},
	{7, "1", "1", 97, 97, [5]string{"inf", "inf", "9999999e90", "inf", "9999999e90"}, with(overflow)},
	{7, "1", "1", 1000000, 0, [5]string{"inf", "inf", "9999999e90", "inf", "9999999e90"}, with(overflow)},
	// The wider formats.
	{8, "2", "3", 0, 0, [5]string{"6666666666666667e-16", "6666666666666667e-16", "6666666666666666e-16", "6666666666666667e-16", "6666666666666666e-16"}, with(inexact)},
	{8, "1", "1", -399, 0, [5]string{"0e-398", "0e-398", "0e-398", "1e-398", "0e-398"}, with(underflow)},
	{8, "99999999999999995", "1", 368, 0, [5]string{"inf", "inf", "9999999999999999e369", "inf", "9999999999999999e369"}, [5]int{overflow, overflow, inexact, overflow, inexact}},
	{8, "1", "1", 384, 384, all("1000000000000000e369"), with(0)},
	{9, "2", "3", 0, 0, [5]string{"6666666666666666666666666666666667e-34", "6666666666666666666666666666666667e-34", "6666666666666666666666666666666666e-34", "6666666666666666666666666666666667e-34", "6666666666666666666666666666666666e-34"}, with(inexact)},
	{9, "1", "1", 6144, 6144, all("1000000000000000000000000000000000e6111"), with(0)},
	{9, "1", "1", 6145, 6145, [5]string{"inf", "inf", "9999999999999999999999999999999999e6111", "inf", "9999999999999999999999999999999999e6111"}, with(overflow)},
	{9, "5", "1", -6177, 0, [5]string{"0e-6176", "1e-6176", "0e-6176", "1e-6176", "0e-6176"}, with(underflow)},
	{9, "9999999999999999999999999999999995", "1", -6177, 0, [5]string{"1000000000000000000000000000000000e-6176", "1000000000000000000000000000000000e-6176", "999999999999999999999999999999999e-6176", "1000000000000000000000000000000000e-6176", "999999999999999999999999999999999e-6176"}, with(underflow)},
	{9, "99999999999999999999999999999999995", "1", 0, 0, [5]string{"1000000000000000000000000000000000e2", "1000000000000000000000000000000000e2", "9999999999999999999999999999999999e1", "1000000000000000000000000000000000e2", "9999999999999999999999999999999999e1"}, with(inexact)},
}

// whole is the number of a text.
func whole(text string) *big.Int {
	n, ok := new(big.Int).SetString(text, 10)
	if !ok {
		panic("no number: " + text)
	}
	return n
}

// datum is what a row's text means.
func datum(text string, sign bool) api.Datum {
	if text == "inf" {
		return api.Datum{Class: api.Infinite, Sign: sign}
	}
	coef, exp, _ := strings.Cut(text, "e")
	n, err := strconv.Atoi(exp)
	if err != nil {
		panic(err)
	}
	return finite(sign, whole(coef), n)
}

// P15.1: rows written out by hand, as they are and with the other sign, which turns Up into Down, plain and dense.
func TestP15_1_Written(t *testing.T) {
	turned := [5]int{0, 1, 2, 4, 3}
	for _, c := range written {
		v := value{whole(c.num), whole(c.den), c.exp}
		for direction := range directions {
			for _, number := range []int{c.number, c.number + 3} {
				right := answer{datum(c.taken[direction], false), c.flags[direction]}
				if got := result(t, number, direction, false, v, c.want); got != right {
					t.Errorf("format %d, direction %d, %v, want %d: %+v, not %+v", number, direction, v, c.want, got, right)
				}
				right = answer{datum(c.taken[turned[direction]], true), c.flags[turned[direction]]}
				if got := result(t, number, direction, true, v, c.want); got != right {
					t.Errorf("format %d, direction %d, minus %v, want %d: %+v, not %+v", number, direction, v, c.want, got, right)
				}
			}
		}
	}
}

// P15.2: the chapter's examples, and some more, of Keep.
func TestP15_2_Written(t *testing.T) {
	for _, c := range []struct {
		coef  string
		exp   int
		taken string
		flags int
	}{
		{"1200", 3, "1200e3", 0},
		{"1", 95, "100000e90", 0},
		{"12345678", 0, "1234568e1", inexact},
		{"0", 95, "0e90", 0},
		{"0", -102, "0e-101", 0},
		{"0", 7, "0e7", 0},
		{"0", math.MaxInt, "0e90", 0},
		{"0", math.MinInt, "0e-101", 0},
		{"1", math.MaxInt, "inf", overflow},
		{"1", math.MinInt, "0e-101", underflow},
		{"12300000", 0, "1230000e1", 0},
		{"1000", -104, "1e-101", 0},
		{"1001", -104, "1e-101", underflow},
	} {
		for _, number := range []int{7, 10} {
			for _, sign := range signs {
				d, flags, errno := decround.Keep(number, api.Even, sign, words(whole(c.coef)), c.exp)
				if d != datum(c.taken, sign) || flags != c.flags || errno != api.OK {
					t.Errorf("format %d, %v: %+v %d %v", number, c, d, flags, errno)
				}
			}
		}
	}
}

// P15.1: numbers with one member and with many, in the midst of the exponents and at their bounds, with every want that matters.
func TestP15_1_Members(t *testing.T) {
	each(t, func(t *testing.T, f format) {
		for _, count := range []int{1, 2, f.precision / 2, f.precision - 1, f.precision} {
			coef := digits(count, uint64(count))
			if new(big.Int).Mod(coef, big.NewInt(10)).Sign() == 0 {
				coef = plus(coef, 3)
			}
			room := f.precision - count
			for _, exp := range []int{f.least - 1, f.least, f.least + 1, f.least + room - 1, f.least + room, f.least + room + 1, -3, 0, f.most - 1, f.most, f.most + 1, f.most + room, f.most + room + 1} {
				for _, noughts := range []int{0, 1, room, f.precision + 5} {
					v := of(times(coef, ten(noughts)), exp-noughts)
					s := f.spotted(v)
					for _, want := range f.about(exp) {
						right := s.rounded(api.Even, true, want)
						if got := result(t, f.number, api.Even, true, v, want); got != right {
							t.Errorf("format %d, %v, want %d: %+v, not %+v", f.number, v, want, got, right)
						}
					}
				}
			}
		}
	})
}

// P15.1: said without the oracle: a number's members are all that are wanted, one by one, and the outer ones beyond them.
func TestP15_1_EveryMember(t *testing.T) {
	each(t, func(t *testing.T, f format) {
		for count := 1; count <= f.precision; count++ {
			// 33..3 times 10^0, which has members down to as many noughts as there is room for.
			coef := new(big.Int).Quo(ten(count), big.NewInt(3))
			room := f.precision - count
			for _, want := range f.about(0) {
				exp := min(max(want, -room), 0)
				right := answer{finite(false, times(coef, ten(-exp)), exp), 0}
				for _, v := range []value{of(coef, 0), of(times(coef, ten(40)), -40), {times(coef, ten(3)), big.NewInt(1000), 0}, {coef, ten(9), 9}, {times(coef, big.NewInt(77)), big.NewInt(77), 0}} {
					if got := result(t, f.number, api.Away, false, v, want); got != right {
						t.Errorf("format %d, %v, want %d: %+v, not %+v", f.number, v, want, got, right)
					}
				}
			}
		}
	})
}

// P15.1: fractions that have an end but no member: too many digits, digits below the least exponent, too great.
func TestP15_1_NoMember(t *testing.T) {
	each(t, func(t *testing.T, f format) {
		long := plus(times(digits(f.precision, 1), big.NewInt(10)), 1)
		for _, want := range f.about(1) {
			for _, direction := range directions {
				for _, v := range []value{of(long, 0), {long, big.NewInt(8), 3}, of(big.NewInt(7), f.least-1), of(big.NewInt(101), f.least-2)} {
					first, got := result(t, f.number, direction, false, v, 0), result(t, f.number, direction, false, v, want)
					if got != first || got.flags&api.Inexact == 0 {
						t.Errorf("format %d, direction %d, %v, want %d: %+v and %+v", f.number, direction, v, want, got, first)
					}
				}
				v := of(big.NewInt(1), f.most+f.precision)
				if got := result(t, f.number, direction, false, v, want); got != f.tooGreat(direction, false) {
					t.Errorf("format %d, direction %d, %v, want %d: %+v", f.number, direction, v, want, got)
				}
			}
		}
	})
}

// P15.1: of num 0 the exponent nearest to want, that sign and no flags, whatever the exponent.
func TestP15_1_Nought(t *testing.T) {
	each(t, func(t *testing.T, f format) {
		for _, want := range f.about(5) {
			right := api.Datum{Class: api.Finite, Exp: min(max(want, f.least), f.most)}
			for _, direction := range directions {
				for _, num := range [][]uint64{nil, {}, {0}, make([]uint64, 401)} {
					for _, exp := range []int{0, 5, -5, f.least - 1, f.least, f.most, f.most + 1, math.MinInt, math.MaxInt} {
						for _, right.Sign = range signs {
							d, flags, errno := decround.Decimal(f.number, direction, right.Sign, num, []uint64{3, 0}, exp, want)
							if d != right || flags != 0 || errno != api.OK {
								t.Errorf("format %d, direction %d, %d noughts, %d, want %d: %+v %d %v", f.number, direction, len(num), exp, want, d, flags, errno)
							}
						}
					}
				}
			}
		}
	})
}

// P15.1, P15.2: noughts with every exponent that a format has, and some beyond: Decimal goes by want alone, Keep by the exponent.
func TestP15_1_NoughtEveryExponent(t *testing.T) {
	each(t, func(t *testing.T, f format) {
		for exp := f.least - 3; exp <= f.most+3; exp++ {
			f.expect(t, answer{finite(true, new(big.Int), 2), 0}, api.Down, true, nil, []uint64{7}, exp, 2)
			d, flags, errno := decround.Keep(f.number, api.Up, true, nil, exp)
			if d != finite(true, new(big.Int), min(max(exp, f.least), f.most)) || flags != 0 || errno != api.OK {
				t.Errorf("format %d, exp %d: %+v %d %v", f.number, exp, d, flags, errno)
			}
		}
	})
}

// P15.1: exponents up to the ends of int, beside numbers of every size.
func TestP15_1_Exponents(t *testing.T) {
	sizes := [][]uint64{{1}, {math.MaxUint64}, {0, 7}, words(two(25599)), words(plus(two(25600), -1))}
	far := []int{1 << 17, 1 << 31, 1 << 32, 1<<32 + 1, 1 << 62, math.MaxInt - 25600, math.MaxInt - 1, math.MaxInt}
	each(t, func(t *testing.T, f format) {
		for i, num := range sizes {
			for j, den := range sizes {
				for k, exp := range far {
					want := []int{0, math.MinInt, math.MaxInt, exp, -exp}[(i+j+k)%5]
					sign := (i+j+k)%2 == 1
					for _, direction := range directions {
						f.expect(t, f.tooGreat(direction, sign), direction, sign, num, den, exp, want)
						nought := answer{finite(sign, new(big.Int), f.least), underflow}
						if outward(direction, sign) {
							nought.d.Coef = api.Bits{1}
						}
						f.expect(t, nought, direction, sign, num, den, -exp, want)
						f.expect(t, nought, direction, sign, num, den, -exp-1, want)
					}
				}
			}
		}
	})
}

// expect rounds once.
func (f format) expect(t *testing.T, right answer, direction int, sign bool, num, den []uint64, exp, want int) {
	t.Helper()
	d, flags, errno := decround.Decimal(f.number, direction, sign, num, den, exp, want)
	if d != right.d || flags != right.flags || errno != api.OK {
		t.Errorf("format %d, direction %d, %v, sizes %d and %d, exp %d, want %d: %+v %d %v", f.number, direction, sign, len(num), len(den), exp, want, d, flags, errno)
	}
}

// P15.1: numbers of 400 words, above and below the line, with the exponents that bring them about the ends of the format and about one.
func TestP15_1_Sizes(t *testing.T) {
	// 10^7706 has 25599 bits.
	long := []*big.Int{ten(7706), plus(ten(7706), 1), plus(ten(7706), -1), plus(two(25600), -1), wide(25600, 3)}
	each(t, func(t *testing.T, f format) {
		for i, place := range []int{f.least - 2, f.least - 1, f.least, f.least + f.precision - 2, 0, f.most + f.precision - 2, f.most + f.precision - 1, f.most + f.precision} {
			for j, n := range long {
				wants := []int{[]int{0, place, math.MinInt, math.MaxInt}[(i+j)%4]}
				short := big.NewInt(int64(1 + (i+j)%2*2))
				f.check(t, value{n, short, place - 7706}, wants)
				f.check(t, value{short, n, place + 7706}, wants)
				f.check(t, value{n, long[i%5], place}, wants)
			}
		}
	})
}

// P15.1: noughts above the highest word mean nothing, and don't count as size.
func TestP15_1_Noughts(t *testing.T) {
	for _, f := range formats {
		for _, more := range []int{1, 2, 400, 3000} {
			num := append([]uint64{5}, make([]uint64, more)...)
			den := append([]uint64{3}, make([]uint64, more)...)
			for _, direction := range directions {
				right := result(t, f.number, direction, true, value{big.NewInt(5), big.NewInt(3), -2}, 0)
				f.expect(t, right, direction, true, num, den, -2, 0)
				right = result(t, f.number, direction, true, of(big.NewInt(5), 2), 2)
				d, flags, errno := decround.Keep(f.number, direction, true, num, 2)
				if d != right.d || flags != right.flags || errno != api.OK {
					t.Error(f.number, direction, more, d, flags, errno)
				}
			}
		}
	}
}

// sized is a natural of so many words, the highest of them 1.
func sized(size int) []uint64 { return append(make([]uint64, size-1), 1) }

// P15.1, P15.2: 400 words are still taken, and noughts above them too.
func TestP15_1_Longest(t *testing.T) {
	for _, f := range formats {
		for _, direction := range directions {
			one := answer{finite(false, big.NewInt(1), 0), 0}
			for _, pair := range [][2][]uint64{{sized(400), sized(400)}, {append(sized(400), 0), append(sized(400), 0, 0)}} {
				f.expect(t, one, direction, false, pair[0], pair[1], 0, 0)
			}
			for _, coef := range [][]uint64{sized(400), append(sized(400), 0)} {
				if _, _, errno := decround.Keep(f.number, direction, false, coef, 0); errno != api.OK {
					t.Error(f.number, direction, len(coef), errno)
				}
			}
		}
	}
}

// others are numbers of formats that aren't decimal, and numbers of none.
var others = []int{1, 2, 3, 4, 5, 6, 0, 13, 14, -1, -7, 256 + 7, 1<<32 + 7, math.MinInt, math.MinInt + 7, math.MaxInt}

// nowhere are numbers of no direction.
var nowhere = []int{-1, 5, 6, 256, 1 << 32, 1<<32 + 2, math.MinInt, math.MaxInt}

// noughts are all kinds of lists that are 0.
var noughts = [][]uint64{nil, {}, {0}, {0, 0, 0}, make([]uint64, 900)}

// refused says that Decimal answers an error, with nothing beside it.
func refused(t *testing.T, right api.Errno, number, direction int, num, den []uint64) {
	t.Helper()
	for _, exp := range []int{0, math.MinInt, math.MaxInt} {
		for _, want := range []int{0, math.MinInt, math.MaxInt} {
			for _, sign := range signs {
				d, flags, errno := decround.Decimal(number, direction, sign, num, den, exp, want)
				if d != (api.Datum{}) || flags != 0 || errno != right {
					t.Errorf("%d %d, sizes %d and %d: %+v %d %v", number, direction, len(num), len(den), d, flags, errno)
				}
			}
		}
	}
}

// P15.1, R5, R6: errors, the one that is named first, with nothing beside them.
func TestP15_1_Errors(t *testing.T) {
	for _, number := range others {
		refused(t, api.ErrArg, number, api.Even, []uint64{1}, []uint64{1})
		refused(t, api.ErrArg, number, api.Zero, nil, []uint64{1})
		refused(t, api.ErrArg, number, api.Down, []uint64{1}, nil)
		refused(t, api.ErrArg, number, api.Up, sized(401), sized(401))
		refused(t, api.ErrArg, number, 5, sized(401), nil)
	}
	for _, f := range formats {
		for _, direction := range nowhere {
			refused(t, api.ErrArg, f.number, direction, []uint64{1}, []uint64{1})
			refused(t, api.ErrArg, f.number, direction, nil, []uint64{1})
			refused(t, api.ErrArg, f.number, direction, []uint64{1}, nil)
			refused(t, api.ErrArg, f.number, direction, sized(401), sized(401))
		}
		for _, direction := range directions {
			for _, den := range noughts {
				refused(t, api.ErrArg, f.number, direction, []uint64{1}, den)
				refused(t, api.ErrArg, f.number, direction, nil, den)
				refused(t, api.ErrArg, f.number, direction, sized(401), den)
			}
			refused(t, api.ErrLong, f.number, direction, sized(401), []uint64{1})
			refused(t, api.ErrLong, f.number, direction, []uint64{1}, sized(401))
			refused(t, api.ErrLong, f.number, direction, nil, sized(401))
			refused(t, api.ErrLong, f.number, direction, sized(401), sized(401))
			refused(t, api.ErrLong, f.number, direction, append(sized(401), 0, 0), []uint64{1, 0})
			refused(t, api.ErrLong, f.number, direction, sized(5000), sized(400))
			refused(t, api.ErrLong, f.number, direction, sized(400), sized(5000))
		}
	}
}

// P15.2, R5, R6: Keep's errors, with nothing beside them.
func TestP15_2_Errors(t *testing.T) {
	keepRefused := func(right api.Errno, number, direction int, coef []uint64) {
		t.Helper()
		for _, exp := range []int{0, math.MinInt, math.MaxInt} {
			d, flags, errno := decround.Keep(number, direction, true, coef, exp)
			if d != (api.Datum{}) || flags != 0 || errno != right {
				t.Errorf("%d %d, size %d: %+v %d %v", number, direction, len(coef), d, flags, errno)
			}
		}
	}
	for _, coef := range [][]uint64{nil, {1}, sized(401)} {
		for _, number := range others {
			keepRefused(api.ErrArg, number, api.Even, coef)
		}
		for _, f := range formats {
			for _, direction := range nowhere {
				keepRefused(api.ErrArg, f.number, direction, coef)
			}
		}
	}
	for _, f := range formats {
		for _, direction := range directions {
			keepRefused(api.ErrLong, f.number, direction, sized(401))
			keepRefused(api.ErrLong, f.number, direction, append(sized(5000), 0))
		}
	}
}

// roomy is a in the beginning of a list with spare room, that whole list, and a copy of it.
func roomy(a []uint64) (part, whole, before []uint64) {
	whole = append(slices.Clone(a), 11, 12, 13, 14)
	return whole[:len(a)], whole, slices.Clone(whole)
}

// R3: arguments stay as they are, their spare room too; one list may be both.
func TestMemory(t *testing.T) {
	pairs := [][2][]uint64{{{7, 9}, {3}}, {{3}, {7, 9}}, {{1, 0}, {3, 0, 0}}, {sized(100), {5}}, {{5}, sized(100)}, {{0}, {1}}, {{1}, {0}}, {{1000}, {1}}, {{99999995}, {1}}, {sized(401), {1}}}
	each(t, func(t *testing.T, f format) {
		for _, exp := range []int{-60000, -300, -1, 0, 1, 300, 60000} {
			for _, pair := range pairs {
				num, wholeNum, beforeNum := roomy(pair[0])
				den, wholeDen, beforeDen := roomy(pair[1])
				for _, direction := range directions {
					decround.Decimal(f.number, direction, true, num, den, exp, 0)
					decround.Decimal(f.number, direction, false, num, num, exp, exp)
					decround.Keep(f.number, direction, false, num, exp)
				}
				if !slices.Equal(wholeNum, beforeNum) || !slices.Equal(wholeDen, beforeDen) {
					t.Error(f.number, exp, pair)
				}
			}
		}
		same := []uint64{7, 9}
		f.expect(t, answer{finite(true, big.NewInt(1), 3), 0}, api.Even, true, same, same, 3, 3)
	})
}
