package fixed_test

import (
	"fmt"
	"math"
	"math/big"
	"strconv"
	"strings"
	"testing"

	"caliper/api"
	"caliper/fixed"
	"caliper/readbin"
)

// The chapter's examples.
func TestExamples(t *testing.T) {
	formats[2].writes(t, api.Even, 3, api.Bits{0x3dcccccd}, "1.00e-1", true)
	formats[3].writes(t, api.Up, 1, api.Bits{0x3ff0000000000000}, "1e0", false)
	formats[2].exactly(t, big.NewInt(0x3dcccccd), value{"100000001490116119384765625", -1})
	if digits, exp, errno := fixed.Exact(api.Single, api.Bits{0x3dcccccd}); digits != "100000001490116119384765625" || exp != -27 || errno != api.OK {
		t.Error(digits, exp, errno)
	}
}

// P10.1: said without the oracle.
func TestP10_1_Written(t *testing.T) {
	for _, c := range []struct {
		number, direction, n int
		b                    api.Bits
		want                 string
		more                 bool
	}{
		{api.Half, api.Even, 1, api.Bits{0x0001}, "6e-8", true},
		{api.Half, api.Zero, 1, api.Bits{0x0001}, "5e-8", true},
		{api.Half, api.Even, 17, api.Bits{0x0001}, "5.9604644775390625e-8", false},
		{api.Half, api.Even, 16, api.Bits{0x0001}, "5.960464477539062e-8", true},
		{api.Half, api.Away, 16, api.Bits{0x0001}, "5.960464477539063e-8", true},
		{api.Half, api.Down, 16, api.Bits{0x8001}, "-5.960464477539063e-8", true},
		{api.Half, api.Up, 16, api.Bits{0x8001}, "-5.960464477539062e-8", true},
		{api.Half, api.Even, 18, api.Bits{0x8001}, "-5.96046447753906250e-8", false},
		{api.Half, api.Even, 5, api.Bits{0x7bff}, "6.5504e4", false},
		{api.Half, api.Even, 4, api.Bits{0x7bff}, "6.550e4", true},
		{api.Half, api.Up, 4, api.Bits{0x7bff}, "6.551e4", true},
		{api.Half, api.Even, 7, api.Bits{0x7bff}, "6.550400e4", false},
		{api.Half, api.Even, 3, api.Bits{0x63cf}, "1.00e3", true},
		{api.Half, api.Zero, 3, api.Bits{0x63cf}, "9.99e2", true},
		{api.Half, api.Down, 1, api.Bits{0xe3cf}, "-1e3", true},
		{api.Half, api.Even, 2, api.Bits{0x3c00}, "1.0e0", false},
		{api.Half, api.Even, 1, api.Bits{0x4900}, "1e1", false},
		{api.Brain, api.Even, 3, api.Bits{0x7f7f}, "3.39e38", true},
		{api.Brain, api.Even, 2, api.Bits{0x0001}, "9.2e-41", true},
		{api.Brain, api.Even, 1, api.Bits{0x0001}, "9e-41", true},
		{api.Brain, api.Up, 1, api.Bits{0x0001}, "1e-40", true},
		{api.Single, api.Even, 39, api.Bits{0x7f7fffff}, "3.40282346638528859811704183484516925440e38", false},
		{api.Single, api.Even, 9, api.Bits{0x00000001}, "1.40129846e-45", true},
		{api.Single, api.Even, 9, api.Bits{0x40490fdb}, "3.14159274e0", true},
		{api.Single, api.Even, 24, api.Bits{0x40490fdb}, "3.14159274101257324218750e0", false},
		{api.Double, api.Even, 17, api.Bits{1}, "4.9406564584124654e-324", true},
		{api.Double, api.Even, 17, api.Bits{0x7fefffffffffffff}, "1.7976931348623157e308", true},
		{api.Double, api.Even, 17, api.Bits{0x3fb999999999999a}, "1.0000000000000001e-1", true},
		{api.Double, api.Even, 55, api.Bits{0x3fb999999999999a}, "1.000000000000000055511151231257827021181583404541015625e-1", false},
		{api.Double, api.Even, 54, api.Bits{0x3fb999999999999a}, "1.00000000000000005551115123125782702118158340454101562e-1", true},
		{api.Double, api.Away, 54, api.Bits{0x3fb999999999999a}, "1.00000000000000005551115123125782702118158340454101563e-1", true},
		{api.Double, api.Even, 16, api.Bits{0x400921fb54442d18}, "3.141592653589793e0", true},
		{api.Double, api.Even, 22, api.Bits{0x44b52d02c7e14af6}, "9.999999999999999161139e22", true},
		{api.Double, api.Even, 15, api.Bits{0x44b52d02c7e14af6}, "1.00000000000000e23", true},
		{api.Quad, api.Even, 36, api.Bits{1}, "6.47517511943802511092443895822764655e-4966", true},
		{api.Quad, api.Even, 4, api.Bits{math.MaxUint64, 0x7ffeffffffffffff}, "1.190e4932", true},
		{api.Quad, api.Even, 3, api.Bits{0, 0x3fff800000000000}, "1.50e0", false},
		{api.Octo, api.Even, 1, api.Bits{1}, "2e-5004", true},
		{api.Octo, api.Even, 4, api.Bits{0, 0, 0, 0x4005900000000000}, "1.000e2", false},
	} {
		formats[c.number-1].writes(t, c.direction, c.n, c.b, c.want, c.more)
	}
}

// P10.2: said without the oracle: whole numbers with noughts at the end and without, fractions, and both together.
func TestP10_2_Written(t *testing.T) {
	for _, c := range []struct {
		number int
		b      api.Bits
		digits string
		exp    int
	}{
		{api.Half, api.Bits{0x3c00}, "1", 0},
		{api.Half, api.Bits{0x4900}, "1", 1},
		{api.Half, api.Bits{0x63d0}, "1", 3},
		{api.Half, api.Bits{0x70e2}, "1", 4},
		{api.Half, api.Bits{0x3800}, "5", -1},
		{api.Half, api.Bits{0x4b80}, "15", 0},
		{api.Half, api.Bits{0x4f80}, "3", 1},
		{api.Half, api.Bits{0x7bff}, "65504", 0},
		{api.Half, api.Bits{0xfbff}, "65504", 0},
		{api.Half, api.Bits{0x0001}, "59604644775390625", -24},
		{api.Half, api.Bits{0x0002}, "11920928955078125", -23},
		{api.Brain, api.Bits{0x3f80}, "1", 0},
		{api.Brain, api.Bits{0x42c8}, "1", 2},
		{api.Brain, api.Bits{0x7f7f}, "33895313892515354759047080037148786688", 1},
		{api.Single, api.Bits{0x7f7fffff}, "34028234663852885981170418348451692544", 1},
		{api.Single, api.Bits{0xbdcccccd}, "100000001490116119384765625", -27},
		{api.Double, api.Bits{0x40c3880000000000}, "1", 4},
		{api.Double, api.Bits{0x3fb999999999999a}, "1000000000000000055511151231257827021181583404541015625", -55},
		{api.Double, api.Bits{0x4480f0cf064dd592}, "1", 22},
		{api.Double, api.Bits{0x44b52d02c7e14af6}, "99999999999999991611392", 0},
		{api.Quad, api.Bits{0, 0x3fff800000000000}, "15", -1},
		{api.Octo, api.Bits{0, 0, 0, 0x4005900000000000}, "1", 2},
	} {
		digits, exp, errno := fixed.Exact(c.number, c.b)
		if digits != c.digits || exp != c.exp || errno != api.OK {
			t.Errorf("Exact(%d, %x): %s %d %d, not %s %d", c.number, c.b, digits, exp, errno, c.digits, c.exp)
		}
	}
}

// P10.1, P10.2: all finite numbers of the two smallest formats.
func TestP10_1_AllOfTheNarrow(t *testing.T) {
	for _, f := range formats[:2] {
		for piece := range int64(8) {
			t.Run(fmt.Sprint(f.number, piece), func(t *testing.T) {
				t.Parallel()
				for pattern := big.NewInt(1 + piece); pattern.Cmp(f.infinity()) < 0; pattern = plus(pattern, 8) {
					f.gives(t, pattern, append(f.about(pattern), 1, 2, 3, 4, 5, 10)...)
				}
			})
		}
	}
}

// P10.1, P10.2: the others, at their edges, and many drawn ones.
func TestP10_1_Wide(t *testing.T) {
	counts := map[int]uint64{api.Single: 2000, api.Double: 500, api.Quad: 20, api.Octo: 10}
	for _, f := range formats[2:] {
		for piece, list := range [][]*big.Int{f.edges(), f.many(counts[f.number])} {
			t.Run(fmt.Sprint(f.number, piece), func(t *testing.T) {
				t.Parallel()
				for i, pattern := range list {
					f.gives(t, pattern, append(f.about(pattern), 1, 2+i%16, 17+i%20)...)
				}
			})
		}
	}
}

// P10.1: every count of digits, of a number with fewer digits, and of one with more.
func TestP10_1_EveryCount(t *testing.T) {
	for _, c := range []struct {
		number  int
		pattern *big.Int
	}{
		{api.Half, big.NewInt(0x3555)},
		{api.Double, big.NewInt(1)},
		{api.Quad, formats[4].scaled(drawn(1, two(113)), -1300)},
		{api.Octo, formats[5].scaled(drawn(2, two(241)), 3000)},
	} {
		t.Run(fmt.Sprint(c.number), func(t *testing.T) {
			t.Parallel()
			for n := 1; n <= api.MostDigits; n++ {
				formats[c.number-1].gives(t, c.pattern, n)
			}
		})
	}
}

// P10.1, P10.2: powers of two, and the numbers beside them.
func TestP10_1_PowersOfTwo(t *testing.T) {
	for _, f := range formats[2:] {
		step := map[int]int{api.Single: 1, api.Double: 11, api.Quad: 1301, api.Octo: 2503}[f.number]
		t.Run(fmt.Sprint(f.number), func(t *testing.T) {
			t.Parallel()
			for n := f.least; n < f.most+f.precision; n += step {
				for more := int64(-1); more < 2; more++ {
					if beside := plus(f.power(n), more); beside.Sign() > 0 {
						f.gives(t, beside, append(f.about(beside), 1, 20)...)
					}
				}
			}
		})
	}
}

// P10.1, P10.2: powers of two that lie just below or above a power of ten, so that it is hard to tell how many digits there are.
func TestP10_1_NearPowersOfTen(t *testing.T) {
	for _, f := range formats {
		t.Run(fmt.Sprint(f.number), func(t *testing.T) {
			t.Parallel()
			for _, n := range []int{3, 10, 93, 103, 196, 289, 485, 970, 1455, 2136, 4272, 6408, 8544, 11165, 13301, 15437, 16383} {
				for _, n := range []int{n, -n} {
					if n < f.least || n >= f.most+f.precision {
						continue
					}
					for more := int64(-1); more < 2; more++ {
						f.gives(t, plus(f.power(n), more), 1, 3, 30)
					}
				}
			}
		})
	}
}

// P10.1, P10.2: whole numbers that each format has.
func TestP10_1_Whole(t *testing.T) {
	for _, f := range formats {
		t.Run(fmt.Sprint(f.number), func(t *testing.T) {
			t.Parallel()
			for n := int64(1); n <= 1<<min(f.precision, 11); n++ {
				f.gives(t, f.scaled(big.NewInt(n), 0), 1, 2, 3, 4, 5)
				text := strconv.FormatInt(n, 10)
				f.exactly(t, f.scaled(big.NewInt(n), 0), value{strings.TrimRight(text, "0"), len(text) - 1})
			}
		})
	}
}

// P10.1, P10.2: powers of ten that are a format's own have one digit, and noughts.
func TestP10_2_PowersOfTen(t *testing.T) {
	for i, f := range formats {
		for exp := range []int{5, 4, 11, 23, 49, 104}[i] {
			pattern := f.scaled(power(5, exp), exp)
			f.exactly(t, pattern, value{"1", exp})
			for _, n := range []int{1, 2, 9, 800} {
				f.gives(t, pattern, n)
				for _, direction := range directions {
					f.writes(t, direction, n, f.signed(pattern, false), spelled("1"+strings.Repeat("0", n-1), exp, false), false)
				}
			}
		}
	}
}

// parsed is a text's sign, its digits' number, how many there are, and the exponent of the last one's place; it fails unless the text has just the chapter's form.
func parsed(t *testing.T, text string) (sign bool, digits *big.Int, n, last int) {
	t.Helper()
	bare, sign := strings.CutPrefix(text, "-")
	front, exponent, _ := strings.Cut(bare, "e")
	all := front
	if len(front) > 1 {
		all = front[:1] + front[2:]
		if front[1] != '.' || len(front) == 2 {
			t.Errorf("%s: no point behind the first digit, or nothing behind it", text)
		}
	}
	digits, ok := new(big.Int).SetString(all, 10)
	place, err := strconv.Atoi(exponent)
	if !ok || err != nil || strconv.Itoa(place) != exponent || all[0] == '0' || all[0] == '-' || all[0] == '+' {
		t.Fatalf("%s is no text of the form", text)
	}
	return sign, digits, len(all), place + 1 - len(all)
}

// near fails unless what is written of a finite pattern, not 0, lies where the direction asks for, less than a unit away, and is told to be the value just where it is.
func (f format) near(t *testing.T, pattern *big.Int, sign bool, direction, n int) {
	t.Helper()
	text, more, errno := fixed.Write(f.number, direction, n, f.signed(pattern, sign))
	gotSign, digits, size, last := parsed(t, text)
	coef, exp := f.reading(pattern)
	places := max(0, -exp, -last)
	number := new(big.Int).Mul(coef, power(10, places))
	if exp < 0 {
		number.Rsh(number, uint(-exp))
	} else {
		number.Lsh(number, uint(exp))
	}
	unit := power(10, last+places)
	away := new(big.Int).Mul(digits, unit)
	away.Sub(away, number)
	far := new(big.Int).Abs(away)
	fits := len(f.value(pattern).digits) <= n
	right := errno == api.OK && gotSign == sign && size == n && far.Cmp(unit) < 0
	right = right && more == (far.Sign() != 0) && more == !fits
	switch direction {
	case api.Even, api.Away:
		right = right && far.Lsh(far, 1).Cmp(unit) <= 0
	case api.Zero:
		right = right && away.Sign() <= 0
	case api.Up:
		right = right && (away.Sign() == 0 || away.Sign() < 0 == sign)
	case api.Down:
		right = right && (away.Sign() == 0 || away.Sign() > 0 == sign)
	}
	if !right {
		t.Errorf("Write(%d, %d, %d, %x), sign %t: %s %t %d", f.number, direction, n, pattern, sign, text, more, errno)
	}
}

// P10.3: without the oracle.
func TestP10_3_Near(t *testing.T) {
	counts := []uint64{400, 400, 400, 150, 6, 4}
	for i, f := range formats {
		for piece, list := range [][]*big.Int{f.edges(), f.many(counts[i])} {
			t.Run(fmt.Sprint(f.number, piece), func(t *testing.T) {
				t.Parallel()
				for _, pattern := range list {
					for _, n := range append(f.about(pattern), 1, 2, 3, 9, 17, 36, 800) {
						if n < 1 || n > api.MostDigits {
							continue
						}
						for _, direction := range directions {
							f.near(t, pattern, false, direction, n)
							f.near(t, pattern, true, direction, n)
						}
					}
				}
			})
		}
	}
}

// P10.3: up and down lie one unit apart about a number that has more digits, and both are it where it hasn't.
func TestP10_3_Neighbours(t *testing.T) {
	counts := []uint64{500, 500, 500, 200, 10, 5}
	for i, f := range formats {
		for _, pattern := range append(f.edges(), f.many(counts[i])...) {
			b := f.signed(pattern, false)
			for _, n := range []int{1, 2, 7, 20} {
				below, _, _ := fixed.Write(f.number, api.Down, n, b)
				above, more, _ := fixed.Write(f.number, api.Up, n, b)
				_, low, _, last := parsed(t, below)
				_, high, _, end := parsed(t, above)
				gap := new(big.Int).Sub(high.Mul(high, power(10, end-last)), low)
				if gap.Cmp(big.NewInt(1)) == 0 != more || gap.Sign() == 0 == more {
					t.Errorf("format %d, %x: %s and %s, %t", f.number, pattern, below, above, more)
				}
			}
		}
	}
}

// P10.1, P10.2: what Exact answers, and what is written of that many digits, is read as the same pattern, in all directions, and raises nothing.
func TestP10_2_ReadBack(t *testing.T) {
	counts := []uint64{400, 400, 400, 100, 40, 40}
	for i, f := range formats {
		for _, pattern := range append(f.edges(), f.many(counts[i])...) {
			v := f.value(pattern)
			if len(v.digits) > 3900 {
				continue
			}
			b := f.signed(pattern, false)
			digits, exp, _ := fixed.Exact(f.number, b)
			texts := []string{digits + "e" + strconv.Itoa(exp)}
			if len(v.digits) <= api.MostDigits {
				text, _, _ := fixed.Write(f.number, api.Even, len(digits), b)
				texts = append(texts, text)
			}
			for _, text := range texts {
				for _, direction := range directions {
					if got, flags, errno := readbin.Read(f.number, direction, text); got != b || flags != 0 || errno != api.OK {
						t.Errorf("%s of %d, %x is read as %x %d %d", text, f.number, b, got, flags, errno)
					}
				}
			}
		}
	}
}

// plain is a text with its exponent as the chapter has it, without a + and without noughts ahead.
func plain(s string) string {
	digits, exp, _ := strings.Cut(s, "e")
	n, _ := strconv.Atoi(exp)
	return digits + "e" + strconv.Itoa(n)
}

// P10.1: the language's own texts of so many digits come to the same.
func TestP10_1_Native(t *testing.T) {
	for seed := range uint64(40000) {
		n := 1 + int(scattered(seed+70000)%40)
		wide := math.Float64frombits(scattered(seed) >> (seed % 2 * (seed % 64)))
		narrow := math.Float32frombits(uint32(scattered(seed+90000)) >> (seed % 2 * (seed % 32)))
		sameAsNative(t, api.Double, n, wide, math.Float64bits(wide))
		sameAsNative(t, api.Single, n, float64(narrow), uint64(math.Float32bits(narrow)))
	}
}

func sameAsNative(t *testing.T, number, n int, v float64, pattern uint64) {
	t.Helper()
	if math.IsNaN(v) || math.IsInf(v, 0) {
		return
	}
	text, _, errno := fixed.Write(number, api.Even, n, api.Bits{pattern})
	if want := plain(strconv.FormatFloat(v, 'e', n-1, 64)); text != want || errno != api.OK {
		t.Errorf("Write(%d, Even, %d, %x): %s %d, not %s", number, n, pattern, text, errno, want)
	}
}

// P10.1: so do the library's of wide numbers.
func TestP10_1_Library(t *testing.T) {
	for _, f := range formats {
		for i, pattern := range append(f.edges(), f.many(15)...) {
			coef, exp := f.reading(pattern)
			v := new(big.Float).SetPrec(uint(f.precision)).SetInt(coef)
			v.SetMantExp(v, exp)
			for _, n := range []int{1, 2 + i, 800} {
				text, _, _ := fixed.Write(f.number, api.Even, n, f.signed(pattern, false))
				if want := plain(v.Text('e', n-1)); text != want {
					t.Errorf("Write(%d, Even, %d, %x): %s, not %s", f.number, n, pattern, text, want)
				}
			}
		}
	}
}
