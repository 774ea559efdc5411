package special_test

import (
	"math"
	"math/big"
	"testing"

	"caliper/api"
	"caliper/desc"
	"caliper/special"
)

// bounds are what payloads lie below, by DOC.md: 2^(P - 2) and 10^(P - 1).
var bounds = map[int]*big.Int{
	1: power(2, 9), 2: power(2, 6), 3: power(2, 22), 4: power(2, 51), 5: power(2, 111), 6: power(2, 239),
	7: power(10, 6), 8: power(10, 15), 9: power(10, 33), 10: power(10, 6), 11: power(10, 15), 12: power(10, 33),
}

var signs = []bool{false, true}

func power(base, n int64) *big.Int { return new(big.Int).Exp(big.NewInt(base), big.NewInt(n), nil) }

func toBits(n *big.Int) api.Bits {
	var b api.Bits
	for i := range b {
		b[i] = new(big.Int).Rsh(n, uint(64*i)).Uint64()
	}
	return b
}

func info(t *testing.T, number int) desc.Info {
	t.Helper()
	known, errno := desc.Of(number)
	if errno != api.OK {
		t.Fatal(number, errno)
	}
	return known
}

// becomes fails unless a datum becomes this one, with these flags.
func becomes(t *testing.T, number int, d, want api.Datum, wantFlags int) {
	t.Helper()
	if got, flags := special.Converted(info(t, number), d); got != want || flags != wantFlags {
		t.Errorf("Converted(%d, %+v): %+v %d, not %+v %d", number, d, got, flags, want, wantFlags)
	}
}

func TestTarget(t *testing.T) {
	for number := range bounds {
		want := info(t, number)
		for direction := api.Even; direction <= api.Down; direction++ {
			if got, errno := special.Target(number, want.Base, direction); got != want || errno != api.OK {
				t.Error(number, direction, got, errno)
			}
		}
	}
}

func TestTargetRefused(t *testing.T) {
	for _, c := range []struct{ number, base, direction int }{
		{api.Half, 10, api.Even},
		{api.Octo, 10, api.Down},
		{api.Plain32, 2, api.Even},
		{api.Dense128, 2, api.Down},
		{0, 2, api.Even},
		{13, 10, api.Even},
		{-1, 10, api.Even},
		{0, 0, api.Even},
		{math.MinInt, 2, api.Even},
		{math.MaxInt, 2, api.Even},
		{api.Half, 2, 5},
		{api.Half, 2, -1},
		{api.Dense128, 10, math.MaxInt},
		{api.Dense128, 10, math.MinInt},
		{13, 2, 5},
	} {
		if got, errno := special.Target(c.number, c.base, c.direction); got != (desc.Info{}) || errno != api.ErrArg {
			t.Error(c, got, errno)
		}
	}
}

func TestNaNs(t *testing.T) {
	for number, bound := range bounds {
		below := toBits(new(big.Int).Sub(bound, big.NewInt(1)))
		above := toBits(new(big.Int).Add(bound, big.NewInt(1)))
		for _, c := range []struct{ payload, want api.Bits }{
			{api.Bits{}, api.Bits{}},
			{api.Bits{1}, api.Bits{1}},
			{below, below},
			{toBits(bound), api.Bits{}},
			{above, api.Bits{}},
			{toBits(power(2, 255)), api.Bits{}},
			{toBits(new(big.Int).Sub(power(2, 256), big.NewInt(1))), api.Bits{}},
		} {
			for _, sign := range signs {
				want := api.Datum{Class: api.NaN, Sign: sign, Coef: c.want}
				becomes(t, number, api.Datum{Class: api.NaN, Sign: sign, Coef: c.payload}, want, 0)
				becomes(t, number, api.Datum{Class: api.NaN, Sign: sign, Signal: true, Coef: c.payload}, want, api.Invalid)
			}
		}
	}
}

func TestInfinities(t *testing.T) {
	for number := range bounds {
		for _, sign := range signs {
			d := api.Datum{Class: api.Infinite, Sign: sign}
			becomes(t, number, d, d, 0)
		}
	}
}
