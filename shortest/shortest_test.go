package shortest_test

import (
	"fmt"
	"math"
	"math/big"
	"strconv"
	"strings"
	"testing"

	"caliper/api"
	"caliper/readbin"
	"caliper/shortest"
)

// The chapter's examples.
func TestExamples(t *testing.T) {
	for _, c := range []struct {
		number int
		b      uint64
		want   string
	}{
		{3, 0x3dcccccd, "1e-1"},
		{4, 0x4340000000000001, "9.007199254740994e15"},
		{1, 0x0001, "6e-8"},
		{3, 0xff800000, "-inf"},
	} {
		formats[c.number-1].writes(t, api.Bits{c.b}, c.want)
	}
}

// P9.1: said without the oracle.
func TestP9_1_Written(t *testing.T) {
	ones := uint64(math.MaxUint64)
	for _, c := range []struct {
		number int
		b      api.Bits
		digits string
		exp    int
	}{
		{api.Half, api.Bits{0x3c00}, "1", 0},
		{api.Half, api.Bits{0x3c01}, "1001", -3},
		{api.Half, api.Bits{0x3bff}, "9995", -4},
		{api.Half, api.Bits{0x4900}, "1", 1},
		{api.Half, api.Bits{0x5640}, "1", 2},
		{api.Half, api.Bits{0x63d0}, "1", 3},
		{api.Half, api.Bits{0x2e66}, "1", -1},
		{api.Half, api.Bits{0x3555}, "3333", -4},
		{api.Half, api.Bits{0x0001}, "6", -8},
		{api.Half, api.Bits{0x0002}, "1", -7},
		{api.Half, api.Bits{0x0003}, "2", -7},
		{api.Half, api.Bits{0x03ff}, "61", -6},
		{api.Half, api.Bits{0x0400}, "6104", -8},
		{api.Half, api.Bits{0x7bff}, "655", 2},
		{api.Brain, api.Bits{0x0001}, "9", -41},
		{api.Brain, api.Bits{0x0002}, "2", -40},
		{api.Brain, api.Bits{0x007f}, "117", -40},
		{api.Brain, api.Bits{0x0080}, "118", -40},
		{api.Brain, api.Bits{0x3dcd}, "1", -1},
		{api.Brain, api.Bits{0x7f7f}, "339", 36},
		{api.Single, api.Bits{0x00000001}, "1", -45},
		{api.Single, api.Bits{0x00000002}, "3", -45},
		{api.Single, api.Bits{0x007fffff}, "11754942", -45},
		{api.Single, api.Bits{0x00800000}, "11754944", -45},
		{api.Single, api.Bits{0x7f7fffff}, "34028235", 31},
		{api.Single, api.Bits{0x4b800000}, "16777216", 0},
		{api.Single, api.Bits{0x4b800001}, "16777218", 0},
		{api.Single, api.Bits{0x40490fdb}, "31415927", -7},
		{api.Double, api.Bits{1}, "5", -324},
		{api.Double, api.Bits{2}, "1", -323},
		{api.Double, api.Bits{0x000fffffffffffff}, "2225073858507201", -323},
		{api.Double, api.Bits{0x0010000000000000}, "22250738585072014", -324},
		{api.Double, api.Bits{0x7fefffffffffffff}, "17976931348623157", 292},
		{api.Double, api.Bits{0x3fb999999999999a}, "1", -1},
		{api.Double, api.Bits{0x3fd3333333333334}, "30000000000000004", -17},
		{api.Double, api.Bits{0x400921fb54442d18}, "3141592653589793", -15},
		{api.Double, api.Bits{0x44b52d02c7e14af5}, "9999999999999997", 7},
		{api.Double, api.Bits{0x44b52d02c7e14af6}, "1", 23},
		{api.Double, api.Bits{0x44b52d02c7e14af7}, "10000000000000001", 7},
		{api.Double, api.Bits{0x4330000000000001}, "4503599627370497", 0},
		{api.Quad, api.Bits{1}, "6", -4966},
		{api.Quad, api.Bits{0, 0x0001000000000000}, "33621031431120935062626778173217526", -4966},
		{api.Quad, api.Bits{ones, 0x7ffeffffffffffff}, "1189731495357231765085759326628007", 4899},
		{api.Quad, api.Bits{0x999999999999999a, 0x3ffb999999999999}, "1", -1},
		{api.Quad, api.Bits{0, 0x3fff800000000000}, "15", -1},
		{api.Octo, api.Bits{1}, "2", -5004},
		{api.Octo, api.Bits{0x999999999999999a, 0x9999999999999999, 0x9999999999999999, 0x3ffb999999999999}, "1", -1},
		{api.Octo, api.Bits{0, 0, 0, 0x4000800000000000}, "3", 0},
		{api.Octo, api.Bits{0, 0, 0, 0x4005900000000000}, "1", 2},
	} {
		f := formats[c.number-1]
		pattern := new(big.Int)
		for i := 3; i >= 0; i-- {
			pattern.Or(pattern.Lsh(pattern, 64), new(big.Int).SetUint64(c.b[i]))
		}
		f.gives(t, pattern, answer{c.digits, c.exp})
	}
}

// P9.1, P9.2: all finite numbers of the two smallest formats.
func TestP9_1_AllOfTheNarrow(t *testing.T) {
	for _, f := range formats[:2] {
		for piece := range int64(4) {
			t.Run(fmt.Sprint(f.number, piece), func(t *testing.T) {
				t.Parallel()
				for pattern := big.NewInt(1 + piece); pattern.Cmp(f.infinity()) < 0; pattern = plus(pattern, 4) {
					f.gives(t, pattern, f.shortest(pattern))
				}
			})
		}
	}
}

// P9.1, P9.2: the others, at their edges, and many drawn ones.
func TestP9_1_Wide(t *testing.T) {
	counts := map[int]uint64{api.Single: 3000, api.Double: 1500, api.Quad: 40, api.Octo: 30}
	for _, f := range formats[2:] {
		t.Run(fmt.Sprint(f.number), func(t *testing.T) {
			t.Parallel()
			for _, pattern := range append(f.edges(), f.many(counts[f.number])...) {
				f.gives(t, pattern, f.shortest(pattern))
			}
		})
	}
}

// P9.1, P9.2: powers of two, below which the next number is nearer than above, and the numbers beside them.
func TestP9_1_PowersOfTwo(t *testing.T) {
	for _, f := range formats[2:] {
		step := map[int]int{api.Single: 1, api.Double: 3, api.Quad: 401, api.Octo: 607}[f.number]
		t.Run(fmt.Sprint(f.number), func(t *testing.T) {
			t.Parallel()
			for n := f.least; n < f.most+f.precision; n += step {
				pattern := f.power(n)
				for more := int64(-1); more < 2; more++ {
					if beside := plus(pattern, more); beside.Sign() > 0 {
						f.gives(t, beside, f.shortest(beside))
					}
				}
			}
		})
	}
}

// P9.1: powers of two that lie just below or above a power of ten, so that it is hard to tell the first digit's place.
func TestP9_1_NearPowersOfTen(t *testing.T) {
	for _, f := range formats {
		for _, n := range []int{3, 10, 93, 103, 196, 289, 485, 970, 1455, 2136, 4272, 6408, 8544, 11165, 13301, 15437, 1, 2, 4, 13, 20, 30, 7, 17} {
			for _, n := range []int{n, -n} {
				if n < f.least || n >= f.most+f.precision {
					continue
				}
				for more := int64(-1); more < 2; more++ {
					pattern := plus(f.power(n), more)
					f.gives(t, pattern, f.shortest(pattern))
				}
			}
		}
	}
}

// P9.1, P9.2: whole numbers that each format has, where all decimal numbers of fewer digits are others.
func TestP9_1_Whole(t *testing.T) {
	for _, f := range formats {
		for n := int64(1); n <= 1<<min(f.precision, 12); n++ {
			coef := big.NewInt(n)
			places := coef.BitLen() - 1
			exp := places - f.precision + 1
			if exp > 0 {
				coef.Rsh(coef, uint(exp))
			} else {
				coef.Lsh(coef, uint(-exp))
			}
			f.gives(t, f.pattern(coef, exp), bare(strconv.FormatInt(n, 10), 0))
		}
	}
}

// P9.1: powers of ten have one digit, and their exponent, whether a format has them or not.
func TestP9_1_PowersOfTen(t *testing.T) {
	for _, f := range formats {
		low, high := f.least*30103/100000+2, (f.most+f.precision)*30103/100000
		for exp := low; exp < high; exp += 1 + (high-low)/500 {
			b, _, _ := readbin.Read(f.number, api.Even, "1e"+strconv.Itoa(exp))
			digits, got, errno := shortest.Digits(f.number, b)
			if digits != "1" || got != exp || errno != api.OK {
				t.Errorf("Digits(%d, %x): %s %d %d, not 1 %d", f.number, b, digits, got, errno, exp)
			}
		}
	}
}

// ownDigits are those of coef times 2^exp written out, cut behind so many, times 10 to the power that goes with it.
func ownDigits(coef *big.Int, exp, size int) (digits *big.Int, power int) {
	places := max(0, -exp)
	text := written(coef, exp, places).String()
	if gap := size - len(text); gap > 0 {
		text, places = text+strings.Repeat("0", gap), places+gap
	}
	digits, _ = new(big.Int).SetString(text[:size], 10)
	return digits, len(text) - size - places
}

// P9.1: by its words and layer 8: of fewer digits neither the number just below nor the one just above is read as it, so none is; of as many, one that is read so and isn't taken lies farther away, or as far, and is odd.
func TestP9_1_FewestAndNearest(t *testing.T) {
	counts := []uint64{100, 100, 200, 100, 4, 2}
	for i, f := range formats {
		t.Run(fmt.Sprint(f.number), func(t *testing.T) {
			t.Parallel()
			patterns := append(f.edges(), f.many(counts[i])...)
			if f.number >= api.Quad {
				patterns = append(f.edges()[:20], f.many(counts[i])...)
			}
			for _, pattern := range patterns {
				f.isShortest(t, pattern)
			}
		})
	}
}

func (f format) isShortest(t *testing.T, pattern *big.Int) {
	t.Helper()
	b := f.signed(pattern, false)
	digits, exp, _ := shortest.Digits(f.number, b)
	coef, power := f.reading(pattern)
	reads := func(n *big.Int, exp int) bool {
		got, _, errno := readbin.Read(f.number, api.Even, n.String()+"e"+strconv.Itoa(exp))
		return got == b && errno == api.OK
	}
	for size := 1; size < len(digits); size++ {
		below, exp := ownDigits(coef, power, size)
		if reads(below, exp) || reads(plus(below, 1), exp) {
			t.Errorf("Digits(%d, %x): %s, but %d digits do", f.number, b, digits, size)
		}
	}
	places := max(0, -power, -exp+1)
	number := written(coef, power, places)
	away := func(n *big.Int, exp int) *big.Int {
		far := new(big.Int).Mul(n, ten(exp+places))
		return far.Abs(far.Sub(far, number))
	}
	taken, _ := new(big.Int).SetString(digits, 10)
	below, low := ownDigits(coef, power, len(digits))
	for _, other := range []*big.Int{below, plus(below, 1)} {
		if !reads(other, low) || other.Cmp(taken) == 0 && low == exp {
			continue
		}
		order := away(other, low).Cmp(away(taken, exp))
		if bare(other.String(), low) != (answer{digits, exp}) && (order < 0 || order == 0 && taken.Bit(0) == 1) {
			t.Errorf("Digits(%d, %x): %s %d, but %v is no worse", f.number, b, digits, exp, other)
		}
	}
	if !reads(taken, exp) {
		t.Errorf("Digits(%d, %x): %s %d is another number", f.number, b, digits, exp)
	}
}

// P9.1: the language's own shortest texts come to the same.
func TestP9_1_Native(t *testing.T) {
	for seed := range uint64(40000) {
		broad := math.Float64frombits(scattered(seed) >> (seed % 2 * (seed % 64)))
		if !math.IsNaN(broad) && !math.IsInf(broad, 0) && broad != 0 {
			formats[3].writes(t, api.Bits{math.Float64bits(broad)}, plain(strconv.FormatFloat(broad, 'e', -1, 64)))
		}
		narrow := math.Float32frombits(uint32(scattered(seed+90000)) >> (seed % 2 * (seed % 32)))
		if wide := float64(narrow); !math.IsNaN(wide) && !math.IsInf(wide, 0) && wide != 0 {
			formats[2].writes(t, api.Bits{uint64(math.Float32bits(narrow))}, plain(strconv.FormatFloat(wide, 'e', -1, 32)))
		}
	}
}

// plain is a text with its exponent as the chapter has it, without a + and without noughts ahead.
func plain(s string) string {
	digits, exp, _ := strings.Cut(s, "e")
	n, _ := strconv.Atoi(exp)
	return digits + "e" + strconv.Itoa(n)
}
