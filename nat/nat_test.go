package nat_test

import (
	"math"
	"math/big"
	"slices"
	"testing"

	"caliper/api"
	"caliper/nat"
)

const most = math.MaxUint64

// toBig brings math/big in as the oracle: it shares no code with the package.
func toBig(a []uint64) *big.Int {
	sum := new(big.Int)
	for _, word := range slices.Backward(a) {
		sum.Lsh(sum, 64)
		sum.Or(sum, new(big.Int).SetUint64(word))
	}
	return sum
}

// same says whether got is want, and has no noughts at its end.
func same(got []uint64, want *big.Int) bool {
	if len(got) > 0 && got[len(got)-1] == 0 {
		return false
	}
	return toBig(got).Cmp(want) == 0
}

// filled is size words, each of them the same.
func filled(size int, word uint64) []uint64 {
	return slices.Repeat([]uint64{word}, size)
}

// single is 2^n.
func single(n int) []uint64 {
	a := make([]uint64, n/64+1)
	a[n/64] = 1 << (n % 64)
	return a
}

// scattered is size words that follow from the seed alone, the highest of them not 0.
func scattered(size int, seed uint64) []uint64 {
	a := make([]uint64, size)
	for i := range a {
		seed += 0x9e3779b97f4a7c15
		word := (seed ^ seed>>30) * 0xbf58476d1ce4e5b9
		word = (word ^ word>>27) * 0x94d049bb133111eb
		a[i] = word ^ word>>31
	}
	if size > 0 {
		a[size-1] |= 1
	}
	return a
}

// padded is a with noughts at its end, which mean nothing.
func padded(a []uint64, noughts int) []uint64 {
	return append(slices.Clone(a), make([]uint64, noughts)...)
}

// samples are numbers up to five words: all words at their ends in every order up to three, runs of carries, scattered ones, and noughts at the end.
func samples() [][]uint64 {
	ends := []uint64{0, 1, 1 << 63, most}
	list := [][]uint64{nil, {}}
	for _, x := range ends {
		list = append(list, []uint64{x})
		for _, y := range ends {
			list = append(list, []uint64{x, y})
			for _, z := range ends {
				list = append(list, []uint64{x, y, z})
			}
		}
	}
	for size := 1; size <= 5; size++ {
		list = append(list, filled(size, most), scattered(size, uint64(size)), scattered(size, uint64(size)+100))
		list = append(list, single(64*size-1), single(64*size), padded(scattered(size, 7), size))
	}
	return append(list, []uint64{10}, []uint64{0, 0, 1<<63 - 1, most - 1}, []uint64{1 << 32, 1<<32 - 1})
}

func TestP2_1_Trim(t *testing.T) {
	for _, a := range samples() {
		got := nat.Trim(a)
		if !same(got, toBig(a)) || len(got) > len(a) {
			t.Errorf("Trim(%x): %x", a, got)
		}
	}
	for _, c := range []struct{ a, want []uint64 }{
		{nil, nil}, {[]uint64{}, nil}, {[]uint64{0}, nil}, {make([]uint64, 3000), nil},
		{[]uint64{5}, []uint64{5}}, {[]uint64{5, 0}, []uint64{5}}, {[]uint64{0, 5, 0, 0}, []uint64{0, 5}},
		{filled(3000, most), filled(3000, most)},
	} {
		if got := nat.Trim(c.a); !slices.Equal(got, c.want) {
			t.Errorf("Trim of %d words: %d words", len(c.a), len(got))
		}
	}
}

func TestP2_1_CmpAddSub(t *testing.T) {
	for _, a := range samples() {
		for _, b := range samples() {
			order := toBig(a).Cmp(toBig(b))
			if got := nat.Cmp(a, b); got != order {
				t.Errorf("Cmp(%x, %x): %d, not %d", a, b, got, order)
			}
			if got := nat.Add(a, b); !same(got, new(big.Int).Add(toBig(a), toBig(b))) {
				t.Errorf("Add(%x, %x): %x", a, b, got)
			}
			got, e := nat.Sub(a, b)
			if order < 0 && (len(got) != 0 || e != api.ErrRange) {
				t.Errorf("Sub(%x, %x), the second greater: %x, %d", a, b, got, e)
			}
			if order >= 0 && (e != api.OK || !same(got, new(big.Int).Sub(toBig(a), toBig(b)))) {
				t.Errorf("Sub(%x, %x): %x, %d", a, b, got, e)
			}
		}
	}
}

func TestP2_1_Len(t *testing.T) {
	for _, a := range samples() {
		if got, want := nat.Len(a), toBig(a).BitLen(); got != want {
			t.Errorf("Len(%x): %d, not %d", a, got, want)
		}
	}
	for n := range 300 {
		if got := nat.Len(padded(single(n), n%3)); got != n+1 {
			t.Errorf("Len of 2^%d: %d", n, got)
		}
	}
}

// These calls have no bound: they take what is longer than MostLimbs.
func TestP2_1_BeyondMostLimbs(t *testing.T) {
	size := api.MostLimbs
	for _, long := range [][]uint64{filled(size, most), filled(size+1, most)} {
		want := append(make([]uint64, len(long)), 1)
		if got := nat.Add(long, []uint64{1, 0}); !slices.Equal(got, want) {
			t.Errorf("Add: %d words", len(got))
		}
		if got := nat.Add([]uint64{1}, long); !slices.Equal(got, want) {
			t.Errorf("Add, the longer one behind: %d words", len(got))
		}
		if got, e := nat.Sub(want, []uint64{1}); !slices.Equal(got, long) || e != api.OK {
			t.Errorf("Sub: %d words, %d", len(got), e)
		}
		if nat.Len(long) != 64*len(long) || nat.Len(want) != 64*len(long)+1 {
			t.Errorf("Len: %d, %d", nat.Len(long), nat.Len(want))
		}
		if nat.Cmp(long, want) != -1 || nat.Cmp(want, long) != 1 || nat.Cmp(long, padded(long, 9)) != 0 {
			t.Error("Cmp")
		}
	}
}

func TestP2_2_Mul(t *testing.T) {
	for _, a := range samples() {
		for _, b := range samples() {
			got, e := nat.Mul(a, b)
			if e != api.OK || !same(got, new(big.Int).Mul(toBig(a), toBig(b))) {
				t.Errorf("Mul(%x, %x): %x, %d", a, b, got, e)
			}
		}
	}
	// (2^64 - 1)^2 is 2^128 - 2^65 + 1.
	if got, e := nat.Mul([]uint64{most}, []uint64{most}); !slices.Equal(got, []uint64{1, most - 1}) || e != api.OK {
		t.Errorf("Mul of the greatest words: %x, %d", got, e)
	}
}

// The bound goes by both sizes together, noughts at the end not counted, even where the product is 0.
func TestP2_2_MulBound(t *testing.T) {
	size := api.MostLimbs
	for _, c := range []struct {
		a, b int
		want api.Errno
	}{
		{size / 2, size / 2, api.OK}, {size - 1, 1, api.OK}, {1, size - 1, api.OK}, {size, 0, api.OK}, {0, size, api.OK},
		{size/2 + 1, size / 2, api.ErrLong}, {size, 1, api.ErrLong}, {1, size, api.ErrLong}, {size, size, api.ErrLong},
		{size + 1, 0, api.ErrLong}, {0, size + 1, api.ErrLong}, {3 * size, 3 * size, api.ErrLong},
	} {
		a, b := filled(c.a, most), filled(c.b, most)
		got, e := nat.Mul(padded(a, size), padded(b, 2*size))
		if e != c.want {
			t.Errorf("Mul of %d and %d words: %d, not %d", c.a, c.b, e, c.want)
		}
		if c.want == api.OK && !same(got, new(big.Int).Mul(toBig(a), toBig(b))) || c.want != api.OK && len(got) != 0 {
			t.Errorf("Mul of %d and %d words: %d words", c.a, c.b, len(got))
		}
	}
}

func TestP2_2_Shl(t *testing.T) {
	for _, a := range samples() {
		for n := range 270 {
			got, e := nat.Shl(a, n)
			if e != api.OK || !same(got, new(big.Int).Lsh(toBig(a), uint(n))) {
				t.Errorf("Shl(%x, %d): %x, %d", a, n, got, e)
			}
		}
		for _, n := range []int{-1, -64, math.MinInt} {
			if got, e := nat.Shl(a, n); len(got) != 0 || e != api.ErrArg {
				t.Errorf("Shl(%x, %d): %x, %d", a, n, got, e)
			}
		}
	}
	if got, e := nat.Shl(filled(api.MostLimbs+1, 1), -1); len(got) != 0 || e != api.ErrArg {
		t.Errorf("a shift below 0 of what is too long: %d", e)
	}
}

func TestP2_2_ShlBound(t *testing.T) {
	size := api.MostLimbs
	for _, c := range []struct {
		size, n int
		want    api.Errno
	}{
		{size, 0, api.OK}, {size, 1, api.ErrLong}, {size, 64, api.ErrLong}, {size + 1, 0, api.ErrLong},
		{size - 1, 1, api.OK}, {size - 1, 63, api.OK}, {size - 1, 64, api.OK}, {size - 1, 65, api.ErrLong},
		{1, 64 * (size - 1), api.OK}, {1, 64*(size-1) - 1, api.OK}, {1, 64*(size-1) + 1, api.ErrLong}, {1, 64*size - 1, api.ErrLong},
		{0, 64 * size, api.OK}, {0, 64*size - 1, api.OK}, {0, 64*size + 1, api.ErrLong}, {0, math.MaxInt, api.ErrLong},
		{1, math.MaxInt, api.ErrLong}, {2, math.MaxInt - 63, api.ErrLong},
	} {
		// The size goes by the words, not by whether the answer would fit: each of these is a number of few bits.
		a := filled(c.size, 1)
		got, e := nat.Shl(padded(a, size), c.n)
		if e != c.want {
			t.Errorf("Shl of %d words by %d: %d, not %d", c.size, c.n, e, c.want)
		}
		if c.want == api.OK && !same(got, new(big.Int).Lsh(toBig(a), uint(c.n))) || c.want != api.OK && len(got) != 0 {
			t.Errorf("Shl of %d words by %d: %d words", c.size, c.n, len(got))
		}
	}
}

func TestP2_2_Shr(t *testing.T) {
	shifts := []int{64 * 5, 64*6 + 1, 64 * 11, 1 << 20, math.MaxInt - 1, math.MaxInt}
	for n := 1; n < 350; n++ {
		shifts = append(shifts, n)
	}
	for _, a := range samples() {
		whole := toBig(a)
		for _, n := range shifts {
			// No sample has more bits than this, and the oracle need not go farther.
			by := uint(min(n, 1<<20))
			down := new(big.Int).Rsh(whole, by)
			lost := new(big.Int).Lsh(down, by).Cmp(whole) != 0
			got, gone := nat.Shr(a, n)
			if !same(got, down) || gone != lost {
				t.Errorf("Shr(%x, %d): %x, %t", a, n, got, gone)
			}
		}
		for _, n := range []int{0, -1, -64, math.MinInt} {
			if got, gone := nat.Shr(a, n); !same(got, whole) || gone {
				t.Errorf("Shr(%x, %d): %x, %t", a, n, got, gone)
			}
		}
	}
}

func TestP2_2_ShrEdges(t *testing.T) {
	for _, c := range []struct {
		a    []uint64
		n    int
		want []uint64
		gone bool
	}{
		{[]uint64{5}, 1, []uint64{2}, true}, {[]uint64{4}, 2, []uint64{1}, false}, {[]uint64{4}, 3, nil, true},
		{[]uint64{0, 3}, 64, []uint64{3}, false}, {[]uint64{1, 3}, 64, []uint64{3}, true}, {[]uint64{0, 3}, 65, []uint64{1}, true},
		{[]uint64{1, 0, 3}, 128, []uint64{3}, true}, {[]uint64{0, 1 << 63, 4}, 130, []uint64{1}, true}, {[]uint64{0, 0, 4}, 130, []uint64{1}, false},
		{[]uint64{0, 3, 0, 0}, 200, nil, true}, {[]uint64{0, 0, 0}, 1, nil, false}, {nil, 64, nil, false}, {nil, math.MaxInt, nil, false},
		{[]uint64{1}, 64, nil, true}, {[]uint64{1}, math.MaxInt, nil, true},
	} {
		if got, gone := nat.Shr(c.a, c.n); !slices.Equal(got, c.want) || gone != c.gone {
			t.Errorf("Shr(%x, %d): %x, %t", c.a, c.n, got, gone)
		}
	}
	long := api.MostLimbs + 5
	if got, gone := nat.Shr(filled(long, most), 64*(long-1)+63); !slices.Equal(got, []uint64{1}) || !gone {
		t.Errorf("Shr of what is longer than MostLimbs: %x, %t", got, gone)
	}
}
