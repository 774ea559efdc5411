package shortest_test

import (
	"fmt"
	"math"
	"math/big"
	"strconv"
	"sync"
	"testing"

	"caliper/api"
	"caliper/readbin"
	"caliper/shortest"
)

// others are numbers of formats that aren't binary, and numbers of none.
var others = []int{7, 8, 9, 10, 11, 12, 0, 13, -1, -3, 257, 1<<32 + 3, math.MinInt, math.MinInt + 4, math.MaxInt}

// refused fails unless both calls answer ErrArg and nothing else.
func refused(t *testing.T, number int, b api.Bits) {
	t.Helper()
	if digits, exp, errno := shortest.Digits(number, b); digits != "" || exp != 0 || errno != api.ErrArg {
		t.Errorf("Digits(%d, %x): %s %d %d, not ErrArg", number, b, digits, exp, errno)
	}
	if text, errno := shortest.Write(number, b); text != "" || errno != api.ErrArg {
		t.Errorf("Write(%d, %x): %s %d, not ErrArg", number, b, text, errno)
	}
}

// P9.1, R5, R6: a format that is none or isn't binary, and a pattern that doesn't fit, are ErrArg, also both at once, and ahead of ErrNone.
func TestArguments(t *testing.T) {
	full := api.Bits{math.MaxUint64, math.MaxUint64, math.MaxUint64, math.MaxUint64}
	for _, number := range others {
		for _, b := range []api.Bits{{}, {1}, {0x3c00}, {0x7c00}, {0x7e00}, {1 << 32}, {0, 1}, {0, 0, 1}, {0, 0, 0, 1 << 63}, full} {
			refused(t, number, b)
		}
	}
	for _, f := range formats {
		for width := f.width; width < 256; width++ {
			var beyond api.Bits
			beyond[width/64] = 1 << (width % 64)
			refused(t, f.number, beyond)
			for _, low := range []*big.Int{big.NewInt(1), f.power(0), f.infinity(), plus(f.infinity(), 1), two(f.width - 1)} {
				b := f.signed(low, false)
				b[width/64] |= 1 << (width % 64)
				refused(t, f.number, b)
			}
		}
		if f.width < 256 {
			refused(t, f.number, full)
		}
	}
}

// nothing fails unless Digits answers ErrNone and nothing else.
func nothing(t *testing.T, number int, b api.Bits) {
	t.Helper()
	if digits, exp, errno := shortest.Digits(number, b); digits != "" || exp != 0 || errno != api.ErrNone {
		t.Errorf("Digits(%d, %x): %s %d %d, not ErrNone", number, b, digits, exp, errno)
	}
}

// same fails unless the text is read back as the pattern, and raises nothing.
func same(t *testing.T, number int, b api.Bits) {
	t.Helper()
	text, _ := shortest.Write(number, b)
	if got, flags, errno := readbin.Read(number, api.Even, text); got != b || flags != 0 || errno != api.OK {
		t.Errorf("Write(%d, %x), %s, is read as %x %d %d", number, b, text, got, flags, errno)
	}
}

// special fails unless a pattern that has no digits has this text, with both signs, which is read back.
func (f format) special(t *testing.T, pattern *big.Int, want string) {
	t.Helper()
	for _, sign := range []bool{false, true} {
		b := f.signed(pattern, sign)
		nothing(t, f.number, b)
		if sign {
			want = "-" + want
		}
		f.writes(t, b, want)
		same(t, f.number, b)
	}
}

// P9.1, P9.2: noughts, infinities, and NaNs that signal and that don't, with the payloads at the edges, of both signs.
func TestP9_1_Specials(t *testing.T) {
	for _, f := range formats {
		f.special(t, new(big.Int), "0e0")
		f.special(t, f.infinity(), "inf")
		quiet := new(big.Int).Add(f.infinity(), two(f.precision-2))
		f.special(t, quiet, "nan")
		payloads := []*big.Int{big.NewInt(1), big.NewInt(5), big.NewInt(10), plus(two(f.precision-2), -2), plus(two(f.precision-2), -1), two(f.precision - 3)}
		for n := range f.precision - 2 {
			payloads = append(payloads, two(n))
		}
		for seed := range uint64(50) {
			payloads = append(payloads, plus(drawn(seed, plus(two(f.precision-2), -1)), 1))
		}
		for _, payload := range payloads {
			f.special(t, new(big.Int).Add(quiet, payload), "nan("+payload.String()+")")
			f.special(t, new(big.Int).Add(f.infinity(), payload), "snan("+payload.String()+")")
		}
	}
}

// P9.1: some of them, written out.
func TestP9_1_SpecialsWritten(t *testing.T) {
	ones := uint64(math.MaxUint64)
	for _, c := range []struct {
		number int
		b      api.Bits
		want   string
	}{
		{api.Half, api.Bits{0x8000}, "-0e0"},
		{api.Half, api.Bits{0x7fff}, "nan(511)"},
		{api.Half, api.Bits{0xfdff}, "-snan(511)"},
		{api.Brain, api.Bits{0x7fff}, "nan(63)"},
		{api.Brain, api.Bits{0x7fbf}, "snan(63)"},
		{api.Single, api.Bits{0x7fc00005}, "nan(5)"},
		{api.Single, api.Bits{0xff800001}, "-snan(1)"},
		{api.Single, api.Bits{0x7fffffff}, "nan(4194303)"},
		{api.Double, api.Bits{0xfff8000000000000}, "-nan"},
		{api.Double, api.Bits{0x7ff7ffffffffffff}, "snan(2251799813685247)"},
		{api.Quad, api.Bits{0, 0xffff000000000000}, "-inf"},
		{api.Quad, api.Bits{0, 0x7fff000000000001}, "snan(18446744073709551616)"},
		{api.Quad, api.Bits{ones, 0x7fffffffffffffff}, "nan(2596148429267413814265248164610047)"},
		{api.Octo, api.Bits{0, 0, 0, 1 << 63}, "-0e0"},
		{api.Octo, api.Bits{ones, ones, ones, 0x7fffffffffffffff}, "nan(883423532389192164791648750371459257913741948437809479060803100646309887)"},
	} {
		formats[c.number-1].writes(t, c.b, c.want)
	}
}

// P9.1: all patterns of the two smallest formats that aren't finite numbers with digits.
func TestP9_1_AllSpecialsOfTheNarrow(t *testing.T) {
	for _, f := range formats[:2] {
		count := 0
		for n := range uint64(1 << 16) {
			b := api.Bits{n}
			digits, _, errno := shortest.Digits(f.number, b)
			low := big.NewInt(int64(n & 0x7fff))
			if low.Sign() > 0 && low.Cmp(f.infinity()) < 0 {
				if digits == "" || errno != api.OK {
					t.Errorf("Digits(%d, %x): %s %d", f.number, b, digits, errno)
				}
				continue
			}
			count++
			nothing(t, f.number, b)
			same(t, f.number, b)
		}
		if want := 2 + 2<<(f.precision-1); count != want {
			t.Errorf("format %d: %d patterns, not %d", f.number, count, want)
		}
	}
}

// candidate is a decimal number that is read as a pattern, and how far it lies from the pattern's number.
type candidate struct {
	answer
	away *big.Int
	odd  bool
}

// better says whether it lies nearer than the other, or as near and is even.
func (c candidate) better(other candidate) bool {
	order := c.away.Cmp(other.away)
	return order < 0 || order == 0 && !c.odd
}

// P9.1: the two smallest formats by the chapter's words alone: every decimal number of one digit is read, of two, and so on, until all numbers of the format have their shortest ones.
func TestP9_1_ByItsWords(t *testing.T) {
	const places = 200
	for _, f := range formats[:2] {
		t.Run(fmt.Sprint(f.number), func(t *testing.T) {
			t.Parallel()
			settled := map[uint64]candidate{}
			all := int(f.infinity().Int64()) - 1
			for size := 1; len(settled) < all && size < 7; size++ {
				found := map[uint64]candidate{}
				low, high := f.least*30103/100000-2, (f.most+f.precision)*30103/100000+2
				for exp := low - size; exp < high-size; exp++ {
					f.readAll(size, exp, places, settled, found)
				}
				for pattern, c := range found {
					settled[pattern] = c
				}
			}
			if len(settled) != all {
				t.Fatalf("only %d of %d", len(settled), all)
			}
			for pattern, c := range settled {
				f.gives(t, new(big.Int).SetUint64(pattern), c.answer)
			}
		})
	}
}

// readAll reads all numbers of so many digits with that exponent, and keeps the best one of each pattern that hasn't any of fewer.
func (f format) readAll(size, exp, places int, settled, found map[uint64]candidate) {
	first := int64(math.Pow10(size - 1))
	for n := first; n < 10*first; n++ {
		text := strconv.FormatInt(n, 10)
		b, _, _ := readbin.Read(f.number, api.Even, text+"e"+strconv.Itoa(exp))
		pattern := new(big.Int).SetUint64(b[0])
		if _, ok := settled[b[0]]; ok || pattern.Sign() == 0 {
			continue
		}
		if pattern.Cmp(f.infinity()) >= 0 {
			return
		}
		coef, power := f.reading(pattern)
		away := new(big.Int).Mul(big.NewInt(n), ten(exp+places))
		away.Abs(away.Sub(away, written(coef, power, places)))
		c := candidate{answer{text, exp}, away, n%2 == 1}
		if old, ok := found[b[0]]; !ok || c.better(old) {
			found[b[0]] = c
		}
	}
}

// P9.1: a number just between two shortest ones is the even one of them: with a quarter behind the point the lower, with three the upper one.
func TestP9_1_AsNear(t *testing.T) {
	for _, f := range formats {
		whole := two(f.precision - 3)
		for more := range int64(20) {
			n := plus(whole, more)
			quarter := new(big.Int).Lsh(n, 2)
			f.gives(t, f.pattern(plus(quarter, 1), -2), answer{n.String() + "2", -1})
			f.gives(t, f.pattern(plus(quarter, 3), -2), answer{n.String() + "8", -1})
		}
	}
}

// P9.1: of two shortest ones the nearer one is taken: of sixteens the next ten, below or above.
func TestP9_1_Nearer(t *testing.T) {
	for _, f := range formats {
		exp := 4
		seen := map[int64]int{}
		for more := range int64(100) {
			coef := plus(two(f.precision-1), 1+more)
			n := new(big.Int).Lsh(coef, uint(exp))
			last := new(big.Int).Mod(n, big.NewInt(10)).Int64()
			hundreds := new(big.Int).Mod(n, big.NewInt(100)).Int64()
			if last != 4 && last != 6 || hundreds <= 8 || hundreds >= 92 {
				// Only these have two, and only if no number of fewer digits is read as them.
				continue
			}
			seen[last]++
			tens := new(big.Int).Quo(n, big.NewInt(10))
			if last == 6 {
				tens = plus(tens, 1)
			}
			f.gives(t, f.pattern(coef, exp), bare(tens.String(), 1))
		}
		if seen[4] < 10 || seen[6] < 10 {
			t.Errorf("format %d: %v", f.number, seen)
		}
	}
}

// P9.1: a short decimal number in the middle between two numbers is the text of the even one alone, whether that is the lower or the upper one.
func TestP9_1_ShortMiddles(t *testing.T) {
	for _, c := range []struct {
		number int
		digits int64
		exp    int
		upper  bool
	}{
		{api.Half, 17, 3, false},
		{api.Half, 19, 3, true},
		{api.Brain, 13, 2, false},
		{api.Brain, 3, 3, true},
		{api.Single, 13, 9, false},
		{api.Single, 3, 10, true},
		{api.Double, 1, 23, false},
		{api.Double, 7, 22, true},
		{api.Quad, 1, 49, false},
		{api.Quad, 3, 48, true},
		{api.Octo, 1, 104, false},
		{api.Octo, 7, 103, true},
	} {
		f := formats[c.number-1]
		twice := new(big.Int).Exp(big.NewInt(5), big.NewInt(int64(c.exp)), nil)
		twice.Mul(twice, big.NewInt(c.digits))
		if twice.BitLen() != f.precision+1 || twice.Bit(0) == 0 {
			t.Fatalf("format %d: %de%d is no middle", c.number, c.digits, c.exp)
		}
		even := f.pattern(new(big.Int).Rsh(twice, 1), c.exp+1)
		odd := plus(even, 1)
		if c.upper {
			even, odd = odd, even
		}
		if even.Bit(0) == 1 {
			t.Fatalf("format %d: %de%d isn't beside an even one so", c.number, c.digits, c.exp)
		}
		want := answer{strconv.FormatInt(c.digits, 10), c.exp}
		f.gives(t, even, want)
		f.gives(t, odd, f.shortest(odd))
		if digits, _, _ := shortest.Digits(f.number, f.signed(odd, false)); len(digits) <= len(want.digits) {
			t.Errorf("format %d: %s of the odd one", c.number, digits)
		}
	}
}

// P9.1: the text of a middle that is a whole number, where every number of as many digits is another one's.
func TestP9_1_WholeMiddles(t *testing.T) {
	for _, f := range formats {
		for more := range int64(60) {
			for exp := 1; exp < 6; exp++ {
				for _, coef := range []*big.Int{plus(two(f.precision-1), more), plus(two(f.precision), -1-more)} {
					if exp > f.most {
						continue
					}
					pattern := f.pattern(coef, exp)
					f.gives(t, pattern, f.shortest(pattern))
				}
			}
		}
	}
}

// P9.1: a nine and the ten above it are both read as the number; the nearer one is taken, though the other one has one digit too, and a higher exponent.
func TestP9_1_NineAndTen(t *testing.T) {
	for _, text := range []string{"9e-41", "10e-41"} {
		if b, _, _ := readbin.Read(api.Brain, api.Even, text); b != (api.Bits{1}) {
			t.Errorf("%s is read as %x", text, b)
		}
	}
	formats[api.Brain-1].gives(t, big.NewInt(1), answer{"9", -41})
	// Here the ten alone is.
	formats[api.Single-1].gives(t, big.NewInt(7), answer{"1", -44})
}

// P9.1: the first digit's place below 0, at 0 and above, with one digit and with more.
func TestP9_1_Places(t *testing.T) {
	for _, text := range []string{"1e0", "9e0", "1.5e0", "1e1", "1.2e1", "2e-1", "2.5e-1", "1e-2", "1.25e-2", "9e-5", "3e4", "3.12e4", "5e-1", "1.23e2"} {
		for _, f := range formats {
			b, _, _ := readbin.Read(f.number, api.Even, text)
			f.writes(t, b, text)
			b, _, _ = readbin.Read(f.number, api.Even, "-"+text)
			f.writes(t, b, "-"+text)
		}
	}
	for _, f := range formats[4:] {
		for _, text := range []string{"1e4000", "1.5e4931", "7e-4000", "1.2345678901234567890123456789012e-4930", "9e99", "9e100", "1e-99", "1e-100", "1.1e1000", "1.1e-1000"} {
			b, _, _ := readbin.Read(f.number, api.Even, text)
			f.writes(t, b, text)
		}
	}
}

// P9.2: patterns of all kinds are read back, whatever their texts are, and raise nothing but Inexact, and Underflow with it, if they are small.
func TestP9_2_ReadBack(t *testing.T) {
	counts := []int{0, 0, 20000, 10000, 500, 300}
	for i, f := range formats {
		t.Run(fmt.Sprint(f.number), func(t *testing.T) {
			t.Parallel()
			if counts[i] == 0 {
				for n := range uint64(1 << 16) {
					f.readBack(t, new(big.Int).SetUint64(n))
				}
			}
			for seed := range uint64(counts[i]) {
				f.readBack(t, drawn(seed, two(f.width)))
				low := drawn(seed+50000, two(f.precision+1))
				f.readBack(t, low)
				f.readBack(t, new(big.Int).Add(f.infinity(), low.Rsh(low, 2)))
			}
		})
	}
}

func (f format) readBack(t *testing.T, pattern *big.Int) {
	t.Helper()
	b := f.signed(pattern, false)
	text, errno := shortest.Write(f.number, b)
	got, flags, errnoBack := readbin.Read(f.number, api.Even, text)
	if got != b || errno != api.OK || errnoBack != api.OK {
		t.Errorf("Write(%d, %x): %s %d, is read as %x %d", f.number, b, text, errno, got, errnoBack)
	}
	unsigned := new(big.Int).Mod(pattern, two(f.width-1))
	switch {
	case flags == 0:
	case unsigned.Sign() == 0 || unsigned.Cmp(f.infinity()) >= 0:
		t.Errorf("Write(%d, %x): %s raises %d", f.number, b, text, flags)
	case flags == api.Underflow+api.Inexact && unsigned.Cmp(two(f.precision-1)) <= 0:
	case flags != api.Inexact:
		t.Errorf("Write(%d, %x): %s raises %d", f.number, b, text, flags)
	}
}

// R2: what is answered doesn't hang on what is asked at the same time.
func TestTogether(t *testing.T) {
	var wait sync.WaitGroup
	for _, f := range formats {
		for _, pattern := range f.edges() {
			wait.Add(1)
			go func() {
				defer wait.Done()
				b := f.signed(pattern, true)
				text, _ := shortest.Write(f.number, b)
				again, _ := shortest.Write(f.number, b)
				if text != again || text == "" {
					t.Errorf("Write(%d, %x): %s, %s", f.number, b, text, again)
				}
			}()
		}
	}
	wait.Wait()
}
