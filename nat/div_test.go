package nat_test

import (
	"math"
	"math/big"
	"slices"
	"testing"

	"caliper/api"
	"caliper/nat"
)

func checkDiv(t *testing.T, a, b []uint64) {
	t.Helper()
	quotient, rest := new(big.Int).QuoRem(toBig(a), toBig(b), new(big.Int))
	got, left, e := nat.Div(a, b)
	if e != api.OK || !same(got, quotient) || !same(left, rest) {
		t.Errorf("Div(%x, %x): %x, %x, %d", a, b, got, left, e)
	}
}

func TestP2_3_Div(t *testing.T) {
	for _, a := range samples() {
		for _, b := range samples() {
			if toBig(b).Sign() > 0 {
				checkDiv(t, a, b)
				continue
			}
			if got, left, e := nat.Div(a, b); len(got) != 0 || len(left) != 0 || e != api.ErrArg {
				t.Errorf("Div(%x, %x): %x, %x, %d", a, b, got, left, e)
			}
		}
	}
}

// Products, and their neighbours, are where a wrong guess of a word shows.
func TestP2_3_DivOfProducts(t *testing.T) {
	one := []uint64{1}
	for _, a := range samples() {
		for _, b := range samples() {
			product, _ := nat.Mul(a, b)
			if len(product) == 0 {
				continue
			}
			below, _ := nat.Sub(product, one)
			last, _ := nat.Sub(nat.Add(product, b), one)
			for _, number := range [][]uint64{product, below, nat.Add(product, one), last} {
				checkDiv(t, number, b)
			}
		}
	}
}

// Of these the first guess of a word is too great, by one or by more, or is no word at all.
func TestP2_3_DivGuesses(t *testing.T) {
	for _, c := range []struct{ a, b, quotient, rest []uint64 }{
		{[]uint64{0, 0, 1 << 63, 1<<63 - 1}, []uint64{1, 0, 1 << 63}, []uint64{most - 1}, []uint64{2, most, 1<<63 - 1}},
		{[]uint64{0, 0, 1}, []uint64{most, most}, []uint64{1}, []uint64{1}},
		{[]uint64{0, most, most - 1}, []uint64{most, most}, []uint64{most - 1}, []uint64{most - 1, most}},
		{[]uint64{0, 0, 1 << 63}, []uint64{most, 1 << 63}, []uint64{most - 1}, []uint64{most - 1, 2}},
		{[]uint64{0, 0, 1<<63 - 1}, []uint64{most, 1 << 63}, []uint64{most - 3}, []uint64{most - 3, 4}},
		{[]uint64{3, 0, 1 << 63}, []uint64{1, 1 << 61}, []uint64{most, 3}, []uint64{4, 1<<61 - 4}},
	} {
		got, left, e := nat.Div(c.a, c.b)
		if !slices.Equal(got, c.quotient) || !slices.Equal(left, c.rest) || e != api.OK {
			t.Errorf("Div(%x, %x): %x, %x, %d", c.a, c.b, got, left, e)
		}
	}
}

func TestP2_3_DivBound(t *testing.T) {
	size := api.MostLimbs
	for _, c := range []struct{ a, b int }{
		{size, 1}, {size, 2}, {size, size / 2}, {size, size - 1}, {size, size}, {size - 1, size}, {1, size}, {0, size}, {0, 1},
	} {
		checkDiv(t, padded(filled(c.a, most), 5), padded(scattered(c.b, 3), 2*size))
	}
	for _, c := range []struct {
		a, b int
		want api.Errno
	}{
		{size + 1, 1, api.ErrLong}, {1, size + 1, api.ErrLong}, {0, size + 1, api.ErrLong}, {size + 1, size + 1, api.ErrLong},
		{size + 1, 0, api.ErrArg}, {0, 0, api.ErrArg}, {size, 0, api.ErrArg},
	} {
		got, left, e := nat.Div(filled(c.a, 1), padded(filled(c.b, 1), 3))
		if len(got) != 0 || len(left) != 0 || e != c.want {
			t.Errorf("Div of %d by %d words: %d, not %d", c.a, c.b, e, c.want)
		}
	}
}

func TestP2_3_Power(t *testing.T) {
	last := api.MostPower
	exponents := []int{63, 64, 65, 127, 128, 1000, 4095, 4096, 8191, 8192, last - 1, last}
	for n := range 60 {
		exponents = append(exponents, n)
	}
	for _, base := range []int{2, 5, 10} {
		for _, n := range exponents {
			got, e := nat.Power(base, n)
			if e != api.OK || !same(got, new(big.Int).Exp(big.NewInt(int64(base)), big.NewInt(int64(n)), nil)) {
				t.Errorf("Power(%d, %d): %d words, %d", base, n, len(got), e)
			}
		}
		if got, e := nat.Power(base, 0); !slices.Equal(got, []uint64{1}) || e != api.OK {
			t.Errorf("Power(%d, 0): %x, %d", base, got, e)
		}
	}
}

func TestP2_3_PowerErrors(t *testing.T) {
	last := api.MostPower
	for _, c := range []struct {
		base, n int
		want    api.Errno
	}{
		{2, last + 1, api.ErrLong}, {5, last + 1, api.ErrLong}, {10, last + 1, api.ErrLong}, {10, math.MaxInt, api.ErrLong},
		{2, -1, api.ErrArg}, {5, -1, api.ErrArg}, {10, math.MinInt, api.ErrArg},
		{0, 1, api.ErrArg}, {1, 1, api.ErrArg}, {3, 0, api.ErrArg}, {4, 2, api.ErrArg}, {-2, 2, api.ErrArg}, {-10, 0, api.ErrArg},
		{20, 1, api.ErrArg}, {16, 1, api.ErrArg}, {math.MaxInt, 0, api.ErrArg}, {math.MinInt, 0, api.ErrArg},
		{3, last + 1, api.ErrArg}, {3, -1, api.ErrArg},
	} {
		if got, e := nat.Power(c.base, c.n); len(got) != 0 || e != c.want {
			t.Errorf("Power(%d, %d): %d words, %d, not %d", c.base, c.n, len(got), e, c.want)
		}
	}
}
