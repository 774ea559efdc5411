package order_test

import (
	"math/big"
	"testing"

	"caliper/api"
	"caliper/order"
)

// TestNextPatterns holds patterns and both neighbours written out, without the oracle.
func TestNextPatterns(t *testing.T) {
	infinity := api.Bits{0, 0, 0, 0x7fff000000000000}
	greatest := api.Bits{ones, ones, ones, 0x7ffeffffffffffff}
	for _, c := range []struct {
		number      int
		b, up, down api.Bits
		flags       int
	}{
		// Noughts and the least numbers.
		{api.Half, api.Bits{}, api.Bits{1}, api.Bits{0x8001}, 0},
		{api.Half, api.Bits{0x8000}, api.Bits{1}, api.Bits{0x8001}, 0},
		{api.Half, api.Bits{1}, api.Bits{2}, api.Bits{}, 0},
		{api.Half, api.Bits{0x8001}, api.Bits{0x8000}, api.Bits{0x8002}, 0},
		{api.Brain, api.Bits{0x8000}, api.Bits{1}, api.Bits{0x8001}, 0},
		{api.Single, api.Bits{0x80000001}, api.Bits{0x80000000}, api.Bits{0x80000002}, 0},
		{api.Double, api.Bits{1}, api.Bits{2}, api.Bits{}, 0},
		{api.Quad, api.Bits{}, api.Bits{1}, api.Bits{1, 1 << 63}, 0},
		{api.Octo, api.Bits{0, 0, 0, 1 << 63}, api.Bits{1}, api.Bits{1, 0, 0, 1 << 63}, 0},
		{api.Octo, api.Bits{1, 0, 0, 1 << 63}, api.Bits{0, 0, 0, 1 << 63}, api.Bits{2, 0, 0, 1 << 63}, 0},
		// The least number of full length, and powers of two.
		{api.Half, api.Bits{0x0400}, api.Bits{0x0401}, api.Bits{0x03ff}, 0},
		{api.Half, api.Bits{0x3c00}, api.Bits{0x3c01}, api.Bits{0x3bff}, 0},
		{api.Half, api.Bits{0xbc00}, api.Bits{0xbbff}, api.Bits{0xbc01}, 0},
		{api.Brain, api.Bits{0x3fff}, api.Bits{0x4000}, api.Bits{0x3ffe}, 0},
		{api.Single, api.Bits{0x3f800000}, api.Bits{0x3f800001}, api.Bits{0x3f7fffff}, 0},
		{api.Quad, api.Bits{ones, 0x3ffeffffffffffff}, api.Bits{0, 0x3fff000000000000}, api.Bits{ones - 1, 0x3ffeffffffffffff}, 0},
		{api.Octo, api.Bits{ones, ones, 5, 0xbfff000000000000}, api.Bits{ones - 1, ones, 5, 0xbfff000000000000}, api.Bits{0, 0, 6, 0xbfff000000000000}, 0},
		// The greatest numbers and the infinities.
		{api.Half, api.Bits{0x7bff}, api.Bits{0x7c00}, api.Bits{0x7bfe}, 0},
		{api.Half, api.Bits{0x7c00}, api.Bits{0x7c00}, api.Bits{0x7bff}, 0},
		{api.Half, api.Bits{0xfbff}, api.Bits{0xfbfe}, api.Bits{0xfc00}, 0},
		{api.Half, api.Bits{0xfc00}, api.Bits{0xfbff}, api.Bits{0xfc00}, 0},
		{api.Brain, api.Bits{0x7f7f}, api.Bits{0x7f80}, api.Bits{0x7f7e}, 0},
		{api.Double, api.Bits{0x7ff0000000000000}, api.Bits{0x7ff0000000000000}, api.Bits{0x7fefffffffffffff}, 0},
		{api.Octo, infinity, infinity, greatest, 0},
		{api.Octo, greatest, infinity, api.Bits{ones - 1, ones, ones, 0x7ffeffffffffffff}, 0},
		// NaNs.
		{api.Half, api.Bits{0x7c01}, api.Bits{0x7e01}, api.Bits{0x7e01}, invalid},
		{api.Half, api.Bits{0x7dff}, api.Bits{0x7fff}, api.Bits{0x7fff}, invalid},
		{api.Half, api.Bits{0xfdff}, api.Bits{0xffff}, api.Bits{0xffff}, invalid},
		{api.Half, api.Bits{0x7e00}, api.Bits{0x7e00}, api.Bits{0x7e00}, 0},
		{api.Half, api.Bits{0xffff}, api.Bits{0xffff}, api.Bits{0xffff}, 0},
		{api.Octo, api.Bits{7, 0, 0, 0x7fff000000000000}, api.Bits{7, 0, 0, 0x7fff800000000000}, api.Bits{7, 0, 0, 0x7fff800000000000}, invalid},
		{api.Octo, api.Bits{7, 0, 0, 0xffff800000000000}, api.Bits{7, 0, 0, 0xffff800000000000}, api.Bits{7, 0, 0, 0xffff800000000000}, 0},
	} {
		steps(t, c.number, c.b, true, c.up, c.flags)
		steps(t, c.number, c.b, false, c.down, c.flags)
	}
}

// moves fails unless both neighbours of a pattern are what the oracle has, and so with the other sign.
func (f format) moves(t *testing.T, b api.Bits) {
	t.Helper()
	for _, up := range signs {
		for _, b := range []api.Bits{b, f.negated(b)} {
			want, flags := f.neighbour(b, up)
			steps(t, f.number, b, up, want, flags)
		}
	}
}

// P20.2: patterns at all edges, those of each single bit, and drawn ones.
func TestP20_2_Edges(t *testing.T) {
	each(t, binaries, func(t *testing.T, f format) {
		list := f.edges()
		for place := range f.width {
			list = append(list, toBits(two(place)), toBits(plus(two(place), -1)), f.signed(new(big.Int).Sub(f.top(), two(min(place, f.width-2))), false))
		}
		for field := int64(0); field < 1<<(f.width-f.precision)-1; field += 1 + field/8 {
			start := new(big.Int).Lsh(big.NewInt(field), uint(f.precision-1))
			list = append(list, toBits(start), toBits(plus(start, 1)), toBits(plus(start, 0).Add(start, plus(two(f.precision-1), -1))))
		}
		for seed := range uint64(2000) {
			list = append(list, f.drawn(seed+1<<25))
		}
		for _, b := range list {
			f.moves(t, b)
		}
	})
}

// P20.2: all patterns of Half and Brain: numbers, laid in their order, one after the other, and NaNs.
func TestP20_2_AllOfHalfAndBrain(t *testing.T) {
	each(t, binaries[:2], func(t *testing.T, f format) {
		bound := f.top().Int64()
		var list []api.Bits
		for n := -bound - 1; n <= bound; n++ {
			list = append(list, f.ranked(n))
		}
		minus, plus := int(bound), int(bound)+1
		for i, b := range list {
			up, down := min(i+1, len(list)-1), max(i-1, 0)
			if i == minus {
				up = plus + 1
			} else if i == plus {
				down = minus - 1
			}
			steps(t, f.number, b, true, list[up], 0)
			steps(t, f.number, b, false, list[down], 0)
		}
		if list[minus] != (api.Bits{1 << 15}) || list[plus] != nothing {
			t.Errorf("the noughts stand elsewhere: %x %x", list[minus], list[plus])
		}
		quiet := uint64(1) << (f.precision - 2)
		for n := uint64(bound) + 1; n < 1<<15; n++ {
			for _, sign := range []uint64{0, 1 << 15} {
				flags := 0
				if n&quiet == 0 {
					flags = invalid
				}
				steps(t, f.number, api.Bits{n | sign}, true, api.Bits{n | sign | quiet}, flags)
				steps(t, f.number, api.Bits{n | sign}, false, api.Bits{n | sign | quiet}, flags)
			}
		}
	})
}

// P20.2: whatever the oracle says of it: the next number up is greater, the next down from it comes back, and so the other way; infinities, beyond which there is nothing, stay; with the other sign all is turned round.
func TestP20_2_Back(t *testing.T) {
	each(t, binaries, func(t *testing.T, f format) {
		list := f.edges()
		for seed := range uint64(1000) {
			list = append(list, f.drawn(seed+1<<26))
		}
		for _, b := range list {
			if _, ok, _ := order.Compare(f.number, b, b); !ok {
				continue
			}
			for i, up := range signs {
				next, flags, errno := order.Next(f.number, b, up)
				if flags != 0 || errno != api.OK {
					t.Errorf("Next(%d, %x, %t): %d %d", f.number, b, up, flags, errno)
				}
				steps(t, f.number, f.negated(b), !up, f.negated(next), 0)
				if b == f.infinity(!up) {
					steps(t, f.number, b, up, b, 0)
					continue
				}
				compares(t, f.number, next, b, 2*i-1, true)
				totals(t, f.number, next, b, 2*i-1)
				f.back(t, b, next, !up)
			}
		}
	})
}

// back fails unless the way back from a neighbour leads where it came from: to the nought on the neighbour's side, from a nought.
func (f format) back(t *testing.T, from, next api.Bits, up bool) {
	t.Helper()
	if from == nothing || from == f.negated(nothing) {
		from = f.signed(new(big.Int), up)
	}
	steps(t, f.number, next, up, from, 0)
}

// P20.2: NaNs with all kinds of payloads: Quiet, and Invalid of those that signal.
func TestP20_2_NaNs(t *testing.T) {
	each(t, binaries, func(t *testing.T, f format) {
		list := f.payloads()
		for place := range f.precision - 2 {
			list = append(list, two(place))
		}
		for _, payload := range list {
			for _, sign := range signs {
				for _, up := range signs {
					quiet := f.nan(sign, false, payload)
					steps(t, f.number, quiet, up, quiet, 0)
					if payload.Sign() > 0 {
						steps(t, f.number, f.nan(sign, true, payload), up, quiet, invalid)
					}
				}
			}
		}
	})
}

// P20.2: decimal formats have no neighbours, whatever the pattern: numbers, infinities and NaNs, canonical and not.
func TestP20_2_Decimal(t *testing.T) {
	each(t, decimals, func(t *testing.T, f format) {
		for _, b := range f.edges() {
			noneNext(t, f.number, b, api.ErrNone)
		}
		for _, pair := range f.strange() {
			noneNext(t, f.number, pair[1], api.ErrNone)
		}
		for seed := range uint64(500) {
			noneNext(t, f.number, f.drawn(seed+1<<27), api.ErrNone)
		}
	})
}
