package hexform_test

import (
	"fmt"
	"math"
	"math/big"
	"strconv"
	"strings"
	"testing"

	"caliper/api"
	"caliper/hexform"
)

// P11.1: the chapter's examples of Write.
func TestExamplesOfWrite(t *testing.T) {
	writes(t, api.Single, api.Bits{0x3fc00000}, "0x1.8p+0")
	writes(t, api.Single, api.Bits{0x00000001}, "0x1p-149")
}

// P11.1: said without the oracle: exponents below 0, 0 and above, last bits that are a multiple of four and that aren't, and what comes of each of them.
func TestP11_1_Written(t *testing.T) {
	ones := uint64(math.MaxUint64)
	for _, c := range []struct {
		number int
		b      api.Bits
		want   string
	}{
		{api.Half, api.Bits{0x0001}, "0x1p-24"},
		{api.Half, api.Bits{0x0002}, "0x1p-23"},
		{api.Half, api.Bits{0x0003}, "0x1.8p-23"},
		{api.Half, api.Bits{0x0005}, "0x1.4p-22"},
		{api.Half, api.Bits{0x0011}, "0x1.1p-20"},
		{api.Half, api.Bits{0x0021}, "0x1.08p-19"},
		{api.Half, api.Bits{0x03ff}, "0x1.ff8p-15"},
		{api.Half, api.Bits{0x0400}, "0x1p-14"},
		{api.Half, api.Bits{0x0401}, "0x1.004p-14"},
		{api.Half, api.Bits{0x3bff}, "0x1.ffcp-1"},
		{api.Half, api.Bits{0x3c00}, "0x1p+0"},
		{api.Half, api.Bits{0x3c01}, "0x1.004p+0"},
		{api.Half, api.Bits{0xbc10}, "-0x1.04p+0"},
		{api.Half, api.Bits{0x4000}, "0x1p+1"},
		{api.Half, api.Bits{0x6400}, "0x1p+10"},
		{api.Half, api.Bits{0x7bff}, "0x1.ffcp+15"},
		{api.Brain, api.Bits{0x0001}, "0x1p-133"},
		{api.Brain, api.Bits{0x007f}, "0x1.fcp-127"},
		{api.Brain, api.Bits{0x0080}, "0x1p-126"},
		{api.Brain, api.Bits{0x3f81}, "0x1.02p+0"},
		{api.Brain, api.Bits{0xff7f}, "-0x1.fep+127"},
		{api.Single, api.Bits{0x007fffff}, "0x1.fffffcp-127"},
		{api.Single, api.Bits{0x00800000}, "0x1p-126"},
		{api.Single, api.Bits{0x3f800001}, "0x1.000002p+0"},
		{api.Single, api.Bits{0x7f7fffff}, "0x1.fffffep+127"},
		{api.Single, api.Bits{0x42f6e979}, "0x1.edd2f2p+6"},
		{api.Single, api.Bits{0x3dcccccd}, "0x1.99999ap-4"},
		{api.Double, api.Bits{1}, "0x1p-1074"},
		{api.Double, api.Bits{0x000fffffffffffff}, "0x1.ffffffffffffep-1023"},
		{api.Double, api.Bits{0x3fb999999999999a}, "0x1.999999999999ap-4"},
		{api.Double, api.Bits{0x400921fb54442d18}, "0x1.921fb54442d18p+1"},
		{api.Double, api.Bits{0xffefffffffffffff}, "-0x1.fffffffffffffp+1023"},
		{api.Quad, api.Bits{1}, "0x1p-16494"},
		{api.Quad, api.Bits{1, 0x3fff000000000000}, "0x1.0000000000000000000000000001p+0"},
		{api.Quad, api.Bits{ones, 0x0000ffffffffffff}, "0x1.fffffffffffffffffffffffffffep-16383"},
		{api.Quad, api.Bits{ones, 0x7ffeffffffffffff}, "0x1.ffffffffffffffffffffffffffffp+16383"},
		{api.Quad, api.Bits{0x0123456789abcdef, 0xc000fedcba987654}, "-0x1.fedcba9876540123456789abcdefp+1"},
		{api.Octo, api.Bits{1}, "0x1p-16622"},
		{api.Octo, api.Bits{0, 1}, "0x1p-16558"},
		{api.Octo, api.Bits{0, 0, 0, 0x4000800000000000}, "0x1.8p+1"},
		{api.Octo, api.Bits{1, 0, 0, 0x3fff000000000000}, "0x1." + strings.Repeat("0", 59) + "1p+0"},
		{api.Octo, api.Bits{0x0123456789abcdef, 0xaaaaaaaaaaaaaaaa, 0xbbbbbbbbbbbbbbbb, 0x3ffecccccccccccc}, "0x1.ccccccccccccbbbbbbbbbbbbbbbbaaaaaaaaaaaaaaaa0123456789abcdefp-1"},
		{api.Octo, api.Bits{ones, ones, ones, 0x7ffeffffffffffff}, "0x1." + strings.Repeat("f", 60) + "p+16383"},
	} {
		writes(t, c.number, c.b, c.want)
		back(t, c.number, c.want, c.b)
	}
}

// P11.1, P11.2: noughts of both signs.
func TestP11_1_WrittenNoughts(t *testing.T) {
	for _, f := range formats {
		for _, sign := range bothSigns {
			b := f.signed(new(big.Int), sign)
			writes(t, f.number, b, minus(sign)+"0x0p+0")
			back(t, f.number, minus(sign)+"0x0p+0", b)
		}
	}
}

// P11.1, P11.2: infinities, and NaNs quiet and signalling, with payloads and without, of both signs.
func TestP11_1_WrittenOthers(t *testing.T) {
	for _, f := range formats {
		quiet := new(big.Int).Add(f.infinity(), two(f.precision-2))
		for _, sign := range bothSigns {
			goes := func(pattern *big.Int, text string) {
				writes(t, f.number, f.signed(pattern, sign), minus(sign)+text)
				back(t, f.number, minus(sign)+text, f.signed(pattern, sign))
			}
			goes(f.infinity(), "inf")
			goes(quiet, "nan")
			payloads := []*big.Int{big.NewInt(1), big.NewInt(5), big.NewInt(63), two(f.precision - 3), plus(two(f.precision-2), -1)}
			for seed := range uint64(20) {
				payloads = append(payloads, plus(drawn(seed, plus(two(f.precision-2), -1)), 1))
			}
			for _, payload := range payloads {
				goes(new(big.Int).Add(quiet, payload), "nan("+payload.String()+")")
				goes(new(big.Int).Add(f.infinity(), payload), "snan("+payload.String()+")")
			}
		}
	}
	writes(t, api.Single, api.Bits{0xff800001}, "-snan(1)")
	writes(t, api.Half, api.Bits{0x7fff}, "nan(511)")
	writes(t, api.Octo, api.Bits{1, 0, 1, 0x7fff000000000000}, "snan(340282366920938463463374607431768211457)")
}

// P11.1, P11.2: all patterns of the two smallest formats.
func TestP11_1_AllOfTheNarrow(t *testing.T) {
	for _, f := range formats[:2] {
		for piece := range int64(4) {
			t.Run(fmt.Sprint(f.number, piece), func(t *testing.T) {
				t.Parallel()
				for pattern := big.NewInt(1 + piece); pattern.Cmp(f.infinity()) < 0; pattern = plus(pattern, 4) {
					f.goes(t, pattern)
				}
			})
		}
	}
}

// P11.2: all patterns of the two smallest formats, NaNs too, without the oracle; and no two have one text.
func TestP11_2_AllOfTheNarrow(t *testing.T) {
	for _, f := range formats[:2] {
		seen := map[string]bool{}
		for n := range uint64(1 << 16) {
			text, errno := hexform.Write(f.number, api.Bits{n})
			if errno != api.OK || seen[text] {
				t.Errorf("Write(%d, %x): %s %d, seen: %t", f.number, n, text, errno, seen[text])
			}
			seen[text] = true
			back(t, f.number, text, api.Bits{n})
		}
	}
}

// P11.1, P11.2: the others, at their edges, and many drawn ones.
func TestP11_1_Wide(t *testing.T) {
	counts := map[int]uint64{api.Single: 4000, api.Double: 4000, api.Quad: 2500, api.Octo: 2000}
	for _, f := range formats[2:] {
		t.Run(fmt.Sprint(f.number), func(t *testing.T) {
			t.Parallel()
			for _, pattern := range append(f.edges(), f.many(counts[f.number])...) {
				f.goes(t, pattern)
			}
		})
	}
}

// P11.1, P11.2: powers of two, and the numbers beside them.
func TestP11_1_PowersOfTwo(t *testing.T) {
	for i, f := range formats {
		step := []int{1, 1, 1, 1, 13, 13}[i]
		for n := f.least; n < f.most+f.precision; n += step {
			pattern := f.power(n)
			writes(t, f.number, f.signed(pattern, false), fmt.Sprintf("0x1p%+d", n))
			for more := int64(-1); more < 2; more++ {
				if beside := plus(pattern, more); beside.Sign() > 0 {
					f.goes(t, beside)
				}
			}
		}
	}
}

// P11.1, P11.2: a single bit, or all bits, at every place behind the highest one, so that digits are filled up by each count of noughts, and noughts stand between; as numbers of full length and as subnormal ones.
func TestP11_1_LastBits(t *testing.T) {
	for _, f := range formats {
		one := f.power(0)
		for low := range f.precision - 1 {
			f.goes(t, new(big.Int).Add(one, two(low)))
			f.goes(t, new(big.Int).Add(one, new(big.Int).Sub(two(f.precision-1), two(low))))
			for high := low + 1; high < f.precision-1; high += 1 + f.precision/20 {
				f.goes(t, new(big.Int).Add(two(high), two(low)))
				f.goes(t, new(big.Int).Sub(two(high), two(low)))
			}
		}
	}
}

// plain is a text with its exponent as the chapter has it, without noughts ahead.
func plain(s string) string {
	digits, exp, _ := strings.Cut(s, "p")
	n, _ := strconv.Atoi(exp)
	return digits + fmt.Sprintf("p%+d", n)
}

// P11.1: the language's own hexadecimal texts come to the same.
func TestP11_1_WrittenNative(t *testing.T) {
	for seed := range uint64(40000) {
		wide := math.Float64frombits(scattered(seed) >> (seed % 2 * (seed % 64)))
		if !math.IsNaN(wide) && !math.IsInf(wide, 0) {
			writes(t, api.Double, api.Bits{math.Float64bits(wide)}, plain(strconv.FormatFloat(wide, 'x', -1, 64)))
		}
		narrow := math.Float32frombits(uint32(scattered(seed+90000)) >> (seed % 2 * (seed % 32)))
		if v := float64(narrow); !math.IsNaN(v) && !math.IsInf(v, 0) {
			writes(t, api.Single, api.Bits{uint64(math.Float32bits(narrow))}, plain(strconv.FormatFloat(v, 'x', -1, 32)))
		}
	}
}

// P11.1: so do the library's of wide numbers.
func TestP11_1_WrittenLibrary(t *testing.T) {
	for _, f := range formats {
		for _, pattern := range append(f.edges(), f.many(50)...) {
			coef, exp := f.reading(pattern)
			v := new(big.Float).SetPrec(uint(f.precision)).SetInt(coef)
			v.SetMantExp(v, exp)
			writes(t, f.number, f.signed(pattern, false), plain(v.Text('x', -1)))
		}
	}
}
