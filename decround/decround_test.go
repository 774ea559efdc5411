package decround_test

import (
	"math"
	"math/big"
	"testing"

	"caliper/api"
	"caliper/decround"
)

// coefs are some of a format: about 0, about each power of ten, about the greatest, and others, even and odd ones.
func (f format) coefs() []*big.Int {
	var list []*big.Int
	for more := range int64(5) {
		list = append(list, big.NewInt(more), plus(ten(f.precision), -1-more), plus(ten(f.precision-1), more-2))
	}
	for count := 1; count <= f.precision; count += 3 {
		list = append(list, plus(ten(count), -1), ten(count-1), digits(count, uint64(count)), times(digits(count, uint64(count+50)), ten(f.precision-count)))
	}
	return list
}

// exps are some of a format: about both bounds and about 0.
func (f format) exps() []int {
	return []int{f.least, f.least + 1, f.least + 2, -f.precision, -1, 0, 1, f.most - 1, f.most}
}

// parts are what a unit of the last place is cut into, to come just beside a number.
func parts() []*big.Int {
	return []*big.Int{big.NewInt(3), plus(two(200), 1), ten(50)}
}

// beside are coef times 10^exp, the middle between it and the next number with that exponent, and what lies just below and above both.
func beside(coef *big.Int, exp int, part *big.Int) []value {
	var list []value
	for middle := range int64(2) {
		place := times(plus(times(coef, big.NewInt(2)), middle), part)
		for _, more := range []int64{-1, 0, 1} {
			if v := (value{plus(place, more), times(part, big.NewInt(2)), exp}); v.num.Sign() > 0 {
				list = append(list, v)
			}
		}
	}
	return list
}

// ways are other fractions that are v: with a common factor, with digits of the exponent in num or den, and with the exponent 0.
func (v value) ways(seed uint64) []value {
	factor := wide(int(seed%150)+2, seed)
	shift := int(seed%300) + 1
	list := []value{
		{times(v.num, factor), times(v.den, factor), v.exp},
		{times(v.num, ten(shift)), v.den, v.exp - shift},
		{v.num, times(v.den, ten(shift)), v.exp + shift},
	}
	num, den := v.over(0)
	return append(list, value{num, den, 0})
}

// P15.1: each format, at its numbers, at the middles between them, and just beside both.
func TestP15_1_Beside(t *testing.T) {
	each(t, func(t *testing.T, f format) {
		for i, coef := range f.coefs() {
			for j, exp := range f.exps() {
				part := parts()[(i+j)%3]
				for _, v := range beside(coef, exp, part) {
					f.check(t, v, f.some())
				}
			}
		}
	})
}

// P15.1: fractions that aren't reduced, or have another exponent, come to the same.
func TestP15_1_Ways(t *testing.T) {
	each(t, func(t *testing.T, f format) {
		for i, coef := range f.coefs() {
			exp, part := f.exps()[i%9], parts()[i/9%3]
			for j, v := range beside(coef, exp, part) {
				f.check(t, v, []int{exp}, v.ways(uint64(i*8+j))...)
			}
		}
	})
}

// P15.1: every exponent that a format has, and some beyond, beside coefficients where something changes.
func TestP15_1_EveryExponent(t *testing.T) {
	each(t, func(t *testing.T, f format) {
		step := 1 + f.precision/12*5
		for exp := f.least - f.precision - 3; exp <= f.most+3; exp += step {
			greatest := plus(ten(f.precision), -1)
			for _, coef := range []*big.Int{big.NewInt(1), ten(f.precision - 1), greatest, plus(times(greatest, big.NewInt(10)), 5)} {
				f.check(t, of(coef, exp), []int{exp})
			}
			f.check(t, value{big.NewInt(2), big.NewInt(3), exp}, []int{exp})
		}
	})
}

// P15.1: the least 600 numbers of each format, the middles between them, and what lies just beside both.
func TestP15_1_Smallest(t *testing.T) {
	each(t, func(t *testing.T, f format) {
		for coef := range int64(600) {
			for _, v := range beside(big.NewInt(coef), f.least, big.NewInt(5)) {
				f.check(t, v, []int{f.least})
			}
		}
	})
}

// P15.1: fractions of all kinds of sizes, near every exponent that a format has and some way beyond.
func TestP15_1_Scattered(t *testing.T) {
	each(t, func(t *testing.T, f format) {
		span := uint64(f.most - f.least + f.precision + 40)
		for seed := range uint64(1200) {
			top, bottom := int(scattered(seed)%400)+1, int(scattered(seed+5000)%400)+1
			place := f.least - 20 + int(scattered(seed+9000)%span)
			v := value{wide(top, seed), wide(bottom, seed+1), place - (top-bottom)*3/10}
			f.check(t, v, []int{place, int(scattered(seed + 12000))})
		}
	})
}

// P15.1: fractions of all kinds that have an end: drawn digits, fewer and more than the format has, over twos and fives.
func TestP15_1_Ended(t *testing.T) {
	each(t, func(t *testing.T, f format) {
		for seed := range uint64(1200) {
			count := int(scattered(seed)%uint64(f.precision+3)) + 1
			noughts := int(scattered(seed+3000) % uint64(f.precision))
			twos, fives := int(scattered(seed+4000)%20), int(scattered(seed+5000)%20)
			exp := f.exps()[seed%9] - noughts
			num := times(digits(count, seed), ten(noughts))
			den := times(two(twos), new(big.Int).Exp(big.NewInt(5), big.NewInt(int64(fives)), nil))
			f.check(t, value{num, den, exp}, []int{exp, exp - 2, exp + 3, exp + noughts})
			f.check(t, value{times(num, den), den, exp}, []int{exp, exp - 2, exp + 3, exp + noughts})
		}
	})
}

// P15.1: where the first digit stands is found at powers of ten, of num and of den, and just beside them.
func TestP15_1_FirstDigit(t *testing.T) {
	each(t, func(t *testing.T, f format) {
		for _, high := range []int{0, 1, 2, 18, 19, 20, 38, 39, 77} {
			for _, low := range []int{0, 1, 2, 18, 19, 20, 38, 39, 77} {
				for more := range int64(9) {
					num, den := plus(ten(high), more%3-1), plus(ten(low), more/3-1)
					if num.Sign() > 0 && den.Sign() > 0 {
						f.check(t, value{num, den, low - high}, []int{0})
					}
				}
			}
		}
	})
}

// compared holds two answers of one sign against each other, by their sizes.
func compared(a, b api.Datum) int {
	if a.Class == api.Infinite || b.Class == api.Infinite {
		return a.Class - b.Class
	}
	return of(toBig(a.Coef[:]), a.Exp).cmp(toBig(b.Coef[:]), b.Exp)
}

// P15.1: said by the answers alone: Down and Up lie on both sides of what isn't exact, with no number of the format between them, and the others are one of them; or all are the number, without flags.
func TestP15_1_BothSides(t *testing.T) {
	each(t, func(t *testing.T, f format) {
		for seed := range uint64(400) {
			v := value{wide(int(seed)%200+1, seed), wide(int(scattered(seed)%60)+1, seed+7), int(seed%20) - 10}
			if seed%3 == 0 {
				v.exp = f.least + int(seed%40) - 20
			}
			if seed%4 == 0 {
				v.den = two(int(seed % 9))
			}
			taken := map[int]api.Datum{}
			flagged := 0
			for _, direction := range directions {
				a := result(t, f.number, direction, false, v, 0)
				taken[direction] = a.d
				flagged |= a.flags
			}
			up, down := taken[api.Up], taken[api.Down]
			low := v.cmp(toBig(down.Coef[:]), down.Exp)
			high := v.cmp(toBig(up.Coef[:]), up.Exp)
			if (low == 0) != (flagged == 0) || (low == 0) != (up == down) || low < 0 || high > 0 || (low == 0) != (high == 0) {
				t.Errorf("format %d, %v: %+v %+v %d", f.number, v, down, up, flagged)
			}
			if low > 0 && !f.neighbours(down, up) {
				t.Errorf("format %d, %v: %+v and %+v are no neighbours", f.number, v, down, up)
			}
			for _, direction := range directions {
				if one := taken[direction]; one != up && one != down {
					t.Errorf("format %d, %v, direction %d: %+v", f.number, v, direction, one)
				}
			}
			if taken[api.Zero] != down {
				t.Errorf("format %d, %v: Zero is %+v", f.number, v, taken[api.Zero])
			}
		}
	})
}

// neighbours says whether one more in the last place of what has all digits, or the least exponent, is the next number.
func (f format) neighbours(down, up api.Datum) bool {
	coef := toBig(down.Coef[:])
	if down.Exp > f.least && coef.Cmp(ten(f.precision-1)) < 0 {
		return false
	}
	return of(plus(coef, 1), down.Exp).cmp(toBig(up.Coef[:]), up.Exp) == 0
}

// P15.1: the other sign turns Up into Down, and changes nothing else.
func TestP15_1_OtherSign(t *testing.T) {
	other := map[int]int{api.Even: api.Even, api.Away: api.Away, api.Zero: api.Zero, api.Up: api.Down, api.Down: api.Up}
	each(t, func(t *testing.T, f format) {
		for seed := range uint64(500) {
			exp := f.least - 20 + int(scattered(seed)%uint64(f.most-f.least+30))
			v := value{wide(int(seed%90)+1, seed), wide(int(scattered(seed)%60)+1, seed+7), exp}
			for _, direction := range directions {
				plus := result(t, f.number, direction, false, v, exp)
				minus := result(t, f.number, other[direction], true, v, exp)
				plus.d.Sign = true
				if plus != minus {
					t.Errorf("format %d, direction %d, %v: %+v, %+v", f.number, direction, v, plus, minus)
				}
			}
		}
	})
}

// P15.1: a greater fraction is never rounded to a less number: small steps through where numbers, middles and exponents change.
func TestP15_1_Rising(t *testing.T) {
	each(t, func(t *testing.T, f format) {
		starts := []value{
			{big.NewInt(1), big.NewInt(40), f.least},
			{plus(times(ten(f.precision-1), big.NewInt(40)), -100), big.NewInt(40), f.least},
			{plus(times(ten(f.precision), big.NewInt(40)), -100), big.NewInt(40), f.least},
			{plus(times(ten(f.precision), big.NewInt(40)), -100), big.NewInt(40), -3},
			{plus(times(ten(f.precision), big.NewInt(40)), -100), big.NewInt(40), f.most},
			{plus(times(digits(f.precision, 5), big.NewInt(40)), -100), big.NewInt(40), 0},
		}
		for _, v := range starts {
			for _, direction := range directions {
				for _, sign := range signs {
					last := result(t, f.number, direction, sign, v, 0)
					for step := range int64(600) {
						next := value{plus(v.num, step), v.den, v.exp}
						a := result(t, f.number, direction, sign, next, 0)
						if compared(last.d, a.d) > 0 {
							t.Errorf("format %d, direction %d, sign %v, %v: %+v behind %+v", f.number, direction, sign, next, a, last)
						}
						last = a
					}
				}
			}
		}
	})
}

// P5: plain and dense formats of one width come to the same.
func TestTwins(t *testing.T) {
	for _, f := range formats[:3] {
		for seed := range uint64(500) {
			exp := f.least - 20 + int(scattered(seed)%uint64(f.most-f.least+30))
			v := value{wide(int(seed%90)+1, seed), wide(int(scattered(seed)%60)+1, seed+7), exp}
			for _, direction := range directions {
				plain, dense := result(t, f.number, direction, true, v, 3), result(t, f.number+3, direction, true, v, 3)
				if plain != dense {
					t.Errorf("format %d, direction %d, %v: %+v, %+v", f.number, direction, v, plain, dense)
				}
			}
		}
	}
}

// P15.2: Keep is Decimal of coef and 1, with exp wanted.
func TestP15_2_Keep(t *testing.T) {
	each(t, func(t *testing.T, f format) {
		coefs := append(f.coefs(), new(big.Int), ten(f.precision), plus(times(ten(f.precision), big.NewInt(10)), 5), wide(25600, 4), ten(7706))
		for seed := range uint64(20) {
			coefs = append(coefs, wide(int(seed)*8+20, seed))
		}
		exps := []int{0, 1, -1, math.MinInt, math.MaxInt, -7706 + f.least, -7706, -7706 + f.most}
		for _, near := range []int{f.least, f.most, f.least - f.precision, f.most + f.precision} {
			exps = append(exps, near-1, near, near+1)
		}
		for _, coef := range coefs {
			for _, exp := range exps {
				for _, direction := range directions {
					for _, sign := range signs {
						d, flags, errno := decround.Decimal(f.number, direction, sign, words(coef), []uint64{1}, exp, exp)
						kept, keptFlags, keptErrno := decround.Keep(f.number, direction, sign, words(coef), exp)
						if kept != d || keptFlags != flags || keptErrno != errno || errno != api.OK {
							t.Errorf("format %d, direction %d, sign %v, %v: %+v %d %v", f.number, direction, sign, of(coef, exp), kept, keptFlags, keptErrno)
						}
					}
				}
			}
		}
	})
}

// P15.2: said without Decimal.
func TestP15_2_Oracle(t *testing.T) {
	each(t, func(t *testing.T, f format) {
		for seed := range uint64(1500) {
			count := int(scattered(seed)%uint64(f.precision+6)) + 1
			coef := digits(count, seed)
			if seed%2 == 0 {
				coef = times(coef, ten(int(scattered(seed+1)%9)))
			}
			exp := f.least - f.precision - 10 + int(scattered(seed+2)%uint64(f.most-f.least+2*f.precision))
			if seed%3 == 0 {
				exp = f.exps()[seed%9]
			}
			s := f.spotted(of(coef, exp))
			for _, direction := range directions {
				for _, sign := range signs {
					right := s.rounded(direction, sign, exp)
					d, flags, errno := decround.Keep(f.number, direction, sign, words(coef), exp)
					if d != right.d || flags != right.flags || errno != api.OK {
						t.Errorf("format %d, direction %d, sign %v, %v: %+v %d %v, not %+v", f.number, direction, sign, of(coef, exp), d, flags, errno, right)
					}
				}
			}
		}
	})
}

// kept says that a number of the format comes out as it is, in every direction, of Keep and of a fraction of it.
func (f format) kept(t *testing.T, coef *big.Int, exp int) {
	t.Helper()
	for _, direction := range directions {
		for _, sign := range signs {
			want := finite(sign, coef, exp)
			d, flags, errno := decround.Keep(f.number, direction, sign, words(coef), exp)
			if d != want || flags != 0 || errno != api.OK {
				t.Errorf("format %d, direction %d, sign %v, %v: %+v %d %v", f.number, direction, sign, of(coef, exp), d, flags, errno)
			}
		}
	}
	v := value{times(coef, big.NewInt(2100)), big.NewInt(21), exp - 2}
	if got := result(t, f.number, api.Even, true, v, exp); got != (answer{finite(true, coef, exp), 0}) {
		t.Errorf("format %d, %v: %+v", f.number, v, got)
	}
}

// P15.3: what is a number of the format comes out as it is, its exponent too: with every exponent, and with coefficients of every number of digits and of noughts behind them.
func TestP15_3_AsItIs(t *testing.T) {
	each(t, func(t *testing.T, f format) {
		for exp := f.least; exp <= f.most; exp++ {
			for _, coef := range []*big.Int{new(big.Int), big.NewInt(1), ten(f.precision - 1), plus(ten(f.precision), -1)} {
				f.kept(t, coef, exp)
			}
			f.kept(t, digits(1+(exp-f.least)%f.precision, uint64(exp-f.least)), exp)
		}
		for count := 1; count <= f.precision; count++ {
			for noughts := 0; noughts <= f.precision-count; noughts++ {
				for _, exp := range f.exps() {
					f.kept(t, times(digits(count, uint64(noughts)), ten(noughts)), exp)
				}
			}
		}
	})
}

// P15.3: the least coefficients, and drawn ones of every number of digits, with all kinds of exponents.
func TestP15_3_Coefficients(t *testing.T) {
	each(t, func(t *testing.T, f format) {
		for coef := range int64(3000) {
			f.kept(t, big.NewInt(coef), f.exps()[coef%9])
			f.kept(t, digits(1+int(coef)%f.precision, uint64(coef)), f.exps()[coef/7%9])
		}
	})
}
