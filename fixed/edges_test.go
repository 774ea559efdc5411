package fixed_test

import (
	"fmt"
	"math"
	"math/big"
	"strings"
	"sync"
	"testing"

	"caliper/api"
	"caliper/fixed"
)

// otherNumbers are those of formats that aren't binary, and numbers of none.
var otherNumbers = []int{7, 8, 9, 10, 11, 12, 0, 13, -1, -3, 257, 1<<32 + 3, math.MinInt, math.MinInt + 4, math.MaxInt}

var otherDirections = []int{-1, 5, 6, 8, 255, 256, 1 << 32, 1<<32 + 1, math.MinInt, math.MaxInt}

var otherCounts = []int{0, -1, -800, 801, 802, 1000, 1 << 32, 1<<32 + 1, math.MinInt, math.MinInt + 1, math.MaxInt}

var someCounts = []int{1, 2, 17, 799, 800}

// refuses fails unless Write answers this error and nothing else.
func refuses(t *testing.T, number, direction, n int, b api.Bits, want api.Errno) {
	t.Helper()
	if text, more, errno := fixed.Write(number, direction, n, b); text != "" || more || errno != want {
		t.Errorf("Write(%d, %d, %d, %x): %s %t %d, not %d", number, direction, n, b, text, more, errno, want)
	}
}

// hasNone fails unless Exact answers this error and nothing else.
func hasNone(t *testing.T, number int, b api.Bits, want api.Errno) {
	t.Helper()
	if digits, exp, errno := fixed.Exact(number, b); digits != "" || exp != 0 || errno != want {
		t.Errorf("Exact(%d, %x): %s %d %d, not %d", number, b, digits, exp, errno, want)
	}
}

// refusesAll fails unless the format and the pattern are ErrArg, whatever the direction and the count.
func refusesAll(t *testing.T, number int, b api.Bits) {
	t.Helper()
	hasNone(t, number, b, api.ErrArg)
	for _, direction := range []int{api.Even, api.Down, -1, 5} {
		for _, n := range []int{1, 800, 0, 801} {
			refuses(t, number, direction, n, b, api.ErrArg)
		}
	}
}

// P10.1, P10.2, R5, R6: a format that is none or isn't binary, and a pattern that doesn't fit, are ErrArg, also both at once, with other errors too, and ahead of them.
func TestFormatsAndPatterns(t *testing.T) {
	full := api.Bits{math.MaxUint64, math.MaxUint64, math.MaxUint64, math.MaxUint64}
	for _, number := range otherNumbers {
		for _, b := range []api.Bits{{}, {1}, {0x3c00}, {0x7c00}, {0x7e00}, {1 << 32}, {0, 1}, {0, 0, 1}, {0, 0, 0, 1 << 63}, full} {
			refusesAll(t, number, b)
		}
	}
	for _, f := range formats {
		for width := f.width; width < 256; width++ {
			for _, low := range []*big.Int{new(big.Int), big.NewInt(1), f.power(0), f.infinity(), plus(f.infinity(), 1), two(f.width - 1)} {
				b := f.signed(low, false)
				b[width/64] |= 1 << (width % 64)
				refusesAll(t, f.number, b)
			}
		}
		if f.width < 256 {
			refusesAll(t, f.number, full)
		}
	}
}

// P10.1, R6: a direction that is none is ErrArg, ahead of a count that is none, and of what isn't finite.
func TestDirections(t *testing.T) {
	for _, f := range formats {
		for _, direction := range otherDirections {
			for _, pattern := range []*big.Int{new(big.Int), big.NewInt(1), f.power(0), f.infinity(), plus(f.infinity(), 1)} {
				for _, n := range append(someCounts, otherCounts...) {
					refuses(t, f.number, direction, n, f.signed(pattern, false), api.ErrArg)
					refuses(t, f.number, direction, n, f.signed(pattern, true), api.ErrArg)
				}
			}
		}
	}
}

// P10.1: a count that is none is ErrRange, ahead of what isn't finite; the counts beside it are taken.
func TestP10_1_Counts(t *testing.T) {
	for _, f := range formats {
		for _, direction := range directions {
			for _, pattern := range []*big.Int{new(big.Int), big.NewInt(1), f.power(0), f.infinity(), plus(f.infinity(), 1), plus(two(f.width-1), -1)} {
				for _, n := range otherCounts {
					refuses(t, f.number, direction, n, f.signed(pattern, false), api.ErrRange)
					refuses(t, f.number, direction, n, f.signed(pattern, true), api.ErrRange)
				}
			}
		}
		f.gives(t, f.power(0), 1, api.MostDigits)
		f.gives(t, big.NewInt(1), 1, api.MostDigits)
	}
}

// P10.1, P10.2: infinities, and NaNs that signal and that don't, of both signs, are ErrNone.
func TestNotFinite(t *testing.T) {
	for _, f := range formats {
		quiet := new(big.Int).Add(f.infinity(), two(f.precision-2))
		patterns := []*big.Int{f.infinity(), plus(f.infinity(), 1), plus(quiet, -1), quiet, plus(quiet, 1), plus(two(f.width-1), -1)}
		for _, pattern := range patterns {
			for _, sign := range bothSigns {
				b := f.signed(pattern, sign)
				hasNone(t, f.number, b, api.ErrNone)
				for _, direction := range directions {
					for _, n := range someCounts {
						refuses(t, f.number, direction, n, b, api.ErrNone)
					}
				}
			}
		}
		f.gives(t, plus(f.infinity(), -1), 1, 2)
	}
}

// P10.1, P10.2: all patterns of the two smallest formats that are no finite numbers, and all others are taken.
func TestAllNotFiniteOfTheNarrow(t *testing.T) {
	for _, f := range formats[:2] {
		count := 0
		for n := range uint64(1 << 16) {
			b := api.Bits{n}
			if _, _, errno := fixed.Write(f.number, api.Even, 3, b); errno == api.OK {
				count++
			} else {
				refuses(t, f.number, api.Even, 3, b, api.ErrNone)
				hasNone(t, f.number, b, api.ErrNone)
			}
		}
		if want := 2 * int(f.infinity().Int64()); count != want {
			t.Errorf("format %d: %d are written, not %d", f.number, count, want)
		}
	}
}

// P10.1, P10.2: noughts of both signs are all noughts, the exponent 0, in every direction, and are the value; they have no digits.
func TestNoughts(t *testing.T) {
	for _, f := range formats {
		for _, sign := range bothSigns {
			b := f.signed(new(big.Int), sign)
			hasNone(t, f.number, b, api.ErrNone)
			minus := ""
			if sign {
				minus = "-"
			}
			for _, direction := range directions {
				f.writes(t, direction, 1, b, minus+"0e0", false)
				f.writes(t, direction, 2, b, minus+"0.0e0", false)
				f.writes(t, direction, 4, b, minus+"0.000e0", false)
				f.writes(t, direction, 800, b, minus+"0."+strings.Repeat("0", 799)+"e0", false)
			}
		}
	}
}

// P10.1: each direction with both signs, below the middle, at it, with an even and with an odd last digit, and above it.
func TestP10_1_Directions(t *testing.T) {
	for _, c := range []struct {
		quarters    int64
		plus, minus [5]string
	}{
		{9, [5]string{"2e0", "2e0", "2e0", "3e0", "2e0"}, [5]string{"-2e0", "-2e0", "-2e0", "-2e0", "-3e0"}},
		{10, [5]string{"2e0", "3e0", "2e0", "3e0", "2e0"}, [5]string{"-2e0", "-3e0", "-2e0", "-2e0", "-3e0"}},
		{11, [5]string{"3e0", "3e0", "2e0", "3e0", "2e0"}, [5]string{"-3e0", "-3e0", "-2e0", "-2e0", "-3e0"}},
		{13, [5]string{"3e0", "3e0", "3e0", "4e0", "3e0"}, [5]string{"-3e0", "-3e0", "-3e0", "-3e0", "-4e0"}},
		{14, [5]string{"4e0", "4e0", "3e0", "4e0", "3e0"}, [5]string{"-4e0", "-4e0", "-3e0", "-3e0", "-4e0"}},
		{15, [5]string{"4e0", "4e0", "3e0", "4e0", "3e0"}, [5]string{"-4e0", "-4e0", "-3e0", "-3e0", "-4e0"}},
		{37, [5]string{"9e0", "9e0", "9e0", "1e1", "9e0"}, [5]string{"-9e0", "-9e0", "-9e0", "-9e0", "-1e1"}},
		{38, [5]string{"1e1", "1e1", "9e0", "1e1", "9e0"}, [5]string{"-1e1", "-1e1", "-9e0", "-9e0", "-1e1"}},
		{39, [5]string{"1e1", "1e1", "9e0", "1e1", "9e0"}, [5]string{"-1e1", "-1e1", "-9e0", "-9e0", "-1e1"}},
		{48, [5]string{"1e1", "1e1", "1e1", "2e1", "1e1"}, [5]string{"-1e1", "-1e1", "-1e1", "-1e1", "-2e1"}},
		{60, [5]string{"2e1", "2e1", "1e1", "2e1", "1e1"}, [5]string{"-2e1", "-2e1", "-1e1", "-1e1", "-2e1"}},
		{100, [5]string{"2e1", "3e1", "2e1", "3e1", "2e1"}, [5]string{"-2e1", "-3e1", "-2e1", "-2e1", "-3e1"}},
	} {
		for _, f := range formats {
			pattern := f.scaled(big.NewInt(c.quarters), -2)
			for direction := range c.plus {
				f.writes(t, direction, 1, f.signed(pattern, false), c.plus[direction], true)
				f.writes(t, direction, 1, f.signed(pattern, true), c.minus[direction], true)
			}
		}
	}
}

// P10.1: middles of two numbers of n digits, halves and whole ones, and the format's numbers just below and just above them.
func TestP10_1_Middles(t *testing.T) {
	for _, f := range formats {
		seen := map[uint]int{}
		for n := 1; power(10, n+1).BitLen() <= f.precision; n++ {
			for seed := range uint64(20) {
				kept := power(10, n-1)
				kept.Add(kept, drawn(seed<<10+uint64(n), new(big.Int).Mul(kept, big.NewInt(9))))
				seen[kept.Bit(0)]++
				f.middle(t, kept, f.scaled(plus(new(big.Int).Lsh(kept, 1), 1), -1))
				f.middle(t, kept, f.scaled(plus(new(big.Int).Mul(kept, big.NewInt(10)), 5), 0))
			}
		}
		if seen[0] < 5 || seen[1] < 5 {
			t.Errorf("format %d: %v", f.number, seen)
		}
	}
}

// middle fails unless a pattern whose digits are those that are kept and a five, and the patterns beside it, are rounded to those that are kept as the oracle has it.
func (f format) middle(t *testing.T, kept, pattern *big.Int) {
	t.Helper()
	if v := f.value(pattern); v.digits != kept.String()+"5" {
		t.Fatalf("format %d, %x is no middle behind %v", f.number, pattern, kept)
	}
	for more := int64(-1); more < 2; more++ {
		f.gives(t, plus(pattern, more), len(kept.String()))
	}
}

// P10.1: middles with their greatest number of digits that is cut off, MostDigits, with an even and with an odd last digit, and the numbers beside them.
func TestP10_1_LongMiddles(t *testing.T) {
	for _, f := range formats[4:] {
		seen := map[byte]int{}
		for seed := range uint64(40) {
			coef := drawn(seed, two(f.precision-1))
			coef.SetBit(coef.SetBit(coef, 0, 1), f.precision-1, 1)
			for exp := -1200; exp < -900; exp++ {
				pattern := f.pattern(coef, exp)
				v := f.value(pattern)
				if len(v.digits) != api.MostDigits+1 {
					continue
				}
				seen[v.digits[api.MostDigits-1]]++
				for more := int64(-1); more < 2; more++ {
					f.gives(t, plus(pattern, more), api.MostDigits-1, api.MostDigits)
				}
			}
		}
		// A power of five ends in 25, so an odd multiple of it in 25 or 75.
		if seen['2'] < 5 || seen['7'] < 5 || len(seen) != 2 {
			t.Errorf("format %d: %v", f.number, seen)
		}
	}
}

// P10.1: nines that are rounded up to the next power of ten, and keep their count of digits; and those that aren't.
func TestP10_1_Nines(t *testing.T) {
	for i, f := range formats {
		for exp := range []int{5, 4, 11, 23, 49, 104}[i] {
			below := plus(f.scaled(power(5, exp), exp), -1)
			v := f.value(below)
			nines := len(v.digits) - len(strings.TrimLeft(v.digits, "9"))
			for n := 1; n <= nines; n++ {
				f.gives(t, below, n)
				up := spelled("1"+strings.Repeat("0", n-1), v.place+1, false)
				down := spelled(strings.Repeat("9", n), v.place, false)
				if len(v.digits) == n {
					up = down
				}
				f.writes(t, api.Up, n, f.signed(below, false), up, len(v.digits) > n)
				f.writes(t, api.Down, n, f.signed(below, false), down, len(v.digits) > n)
				f.writes(t, api.Zero, n, f.signed(below, true), "-"+down, len(v.digits) > n)
			}
			f.gives(t, below, nines+1, nines+2, nines+3)
		}
	}
}

// P10.1: as many nines as there are digits, which the direction carries over all exponents: below 0, to 0, and above.
func TestP10_1_NinesAtPlaces(t *testing.T) {
	for _, c := range []struct {
		number  int
		pattern uint64
		n       int
		want    string
	}{
		{api.Half, 0x3bff, 2, "1.0e0"},
		{api.Half, 0x3bff, 3, "1.00e0"},
		{api.Half, 0x2e64, 2, "1.0e-1"},
		{api.Half, 0x48ff, 2, "1.0e1"},
		{api.Half, 0x563f, 2, "1.0e2"},
		{api.Single, 0x3f7fffff, 6, "1.00000e0"},
		{api.Single, 0x38d1b716, 6, "1.00000e-4"},
		{api.Double, 0x44b52d02c7e14af6, 10, "1.000000000e23"},
		{api.Double, 0x3fefffffffffffff, 15, "1.00000000000000e0"},
	} {
		formats[c.number-1].writes(t, api.Even, c.n, api.Bits{c.pattern}, c.want, true)
		formats[c.number-1].gives(t, new(big.Int).SetUint64(c.pattern), c.n)
	}
}

// R2: what is answered doesn't hang on what is asked at the same time.
func TestTogether(t *testing.T) {
	var workers sync.WaitGroup
	for _, f := range formats {
		for _, pattern := range f.edges()[:8] {
			workers.Go(func() {
				for range 2 {
					f.gives(t, pattern, 3, 40)
				}
			})
		}
	}
	workers.Wait()
}

// R1: no call panics, whatever it is given.
func TestAnything(t *testing.T) {
	for seed := range uint64(20000) {
		word := scattered(seed)
		number, direction, n := int(word%16)-1, int(word>>8%8)-1, int(word>>16%900)-40
		var b api.Bits
		for i := range b {
			b[i] = scattered(seed<<3 + uint64(i) + 1<<40)
		}
		if number >= 1 && number <= 5 && seed%4 > 0 {
			width := formats[number-1].width
			b = formats[number-1].signed(drawn(seed, two(width)), false)
		}
		text, more, errno := fixed.Write(number, direction, n, b)
		if errno != api.OK && (text != "" || more) || errno == api.OK && text == "" {
			t.Error(fmt.Sprint("Write ", number, direction, n, b, text, more, errno))
		}
		if seed%8 > 0 {
			continue
		}
		digits, exp, errno := fixed.Exact(number, b)
		if errno != api.OK && (digits != "" || exp != 0) || errno == api.OK && digits == "" {
			t.Error(fmt.Sprint("Exact ", number, b, digits, exp, errno))
		}
	}
}
