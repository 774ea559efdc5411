package binary_test

import (
	"math"
	"testing"

	"caliper/api"
	"caliper/binary"
)

// edge is a pattern and its meaning, written out: said without the oracle, which might be wrong in the same way.
type edge struct {
	number int
	b      api.Bits
	d      api.Datum
}

func finite(exp int, coef ...uint64) api.Datum {
	d := api.Datum{Class: api.Finite, Exp: exp}
	copy(d.Coef[:], coef)
	return d
}

func nan(signal bool, payload ...uint64) api.Datum {
	d := api.Datum{Class: api.NaN, Signal: signal}
	copy(d.Coef[:], payload)
	return d
}

const all = math.MaxUint64

// edges are, of each format: 0, the least number, the greatest with exponent 0, the least with exponent 1, 1, the greatest, infinity, and NaNs with the least and the greatest payloads.
var edges = []edge{
	{1, api.Bits{0}, finite(-24)},
	{1, api.Bits{1}, finite(-24, 1)},
	{1, api.Bits{0x3ff}, finite(-24, 0x3ff)},
	{1, api.Bits{0x400}, finite(-24, 0x400)},
	{1, api.Bits{0x7ff}, finite(-24, 0x7ff)},
	{1, api.Bits{0x800}, finite(-23, 0x400)},
	{1, api.Bits{0x3c00}, finite(-10, 0x400)},
	{1, api.Bits{0x7bff}, finite(5, 0x7ff)},
	{1, api.Bits{0x7c00}, api.Datum{Class: api.Infinite}},
	{1, api.Bits{0x7c01}, nan(true, 1)},
	{1, api.Bits{0x7dff}, nan(true, 0x1ff)},
	{1, api.Bits{0x7e00}, nan(false)},
	{1, api.Bits{0x7e01}, nan(false, 1)},
	{1, api.Bits{0x7fff}, nan(false, 0x1ff)},

	{2, api.Bits{0}, finite(-133)},
	{2, api.Bits{1}, finite(-133, 1)},
	{2, api.Bits{0x7f}, finite(-133, 0x7f)},
	{2, api.Bits{0x80}, finite(-133, 0x80)},
	{2, api.Bits{0x3f80}, finite(-7, 0x80)},
	{2, api.Bits{0x7f7f}, finite(120, 0xff)},
	{2, api.Bits{0x7f80}, api.Datum{Class: api.Infinite}},
	{2, api.Bits{0x7f81}, nan(true, 1)},
	{2, api.Bits{0x7fbf}, nan(true, 0x3f)},
	{2, api.Bits{0x7fc0}, nan(false)},
	{2, api.Bits{0x7fff}, nan(false, 0x3f)},

	{3, api.Bits{0}, finite(-149)},
	{3, api.Bits{1}, finite(-149, 1)},
	{3, api.Bits{0x7fffff}, finite(-149, 0x7fffff)},
	{3, api.Bits{0x800000}, finite(-149, 0x800000)},
	{3, api.Bits{0x3f800000}, finite(-23, 1<<23)},
	{3, api.Bits{0x7f7fffff}, finite(104, 0xffffff)},
	{3, api.Bits{0x7f800000}, api.Datum{Class: api.Infinite}},
	{3, api.Bits{0x7f800001}, nan(true, 1)},
	{3, api.Bits{0x7fbfffff}, nan(true, 0x3fffff)},
	{3, api.Bits{0x7fc00000}, nan(false)},
	{3, api.Bits{0x7fc00005}, nan(false, 5)},
	{3, api.Bits{0x7fffffff}, nan(false, 0x3fffff)},

	{4, api.Bits{0}, finite(-1074)},
	{4, api.Bits{1}, finite(-1074, 1)},
	{4, api.Bits{1<<52 - 1}, finite(-1074, 1<<52-1)},
	{4, api.Bits{1 << 52}, finite(-1074, 1<<52)},
	{4, api.Bits{0x3ff0000000000000}, finite(-52, 1<<52)},
	{4, api.Bits{0x7fefffffffffffff}, finite(971, 1<<53-1)},
	{4, api.Bits{0x7ff0000000000000}, api.Datum{Class: api.Infinite}},
	{4, api.Bits{0x7ff0000000000001}, nan(true, 1)},
	{4, api.Bits{0x7ff7ffffffffffff}, nan(true, 1<<51-1)},
	{4, api.Bits{0x7ff8000000000000}, nan(false)},
	{4, api.Bits{0x7fffffffffffffff}, nan(false, 1<<51-1)},

	{5, api.Bits{0}, finite(-16494)},
	{5, api.Bits{1}, finite(-16494, 1)},
	{5, api.Bits{all, 1<<48 - 1}, finite(-16494, all, 1<<48-1)},
	{5, api.Bits{0, 1 << 48}, finite(-16494, 0, 1<<48)},
	{5, api.Bits{0, 0x3fff000000000000}, finite(-112, 0, 1<<48)},
	{5, api.Bits{all, 0x7ffeffffffffffff}, finite(16271, all, 1<<49-1)},
	{5, api.Bits{0, 0x7fff000000000000}, api.Datum{Class: api.Infinite}},
	{5, api.Bits{1, 0x7fff000000000000}, nan(true, 1)},
	{5, api.Bits{all, 0x7fff7fffffffffff}, nan(true, all, 1<<47-1)},
	{5, api.Bits{0, 0x7fff800000000000}, nan(false)},
	{5, api.Bits{all, 0x7fffffffffffffff}, nan(false, all, 1<<47-1)},

	{6, api.Bits{0}, finite(-16622)},
	{6, api.Bits{1}, finite(-16622, 1)},
	{6, api.Bits{all, all, all, 1<<48 - 1}, finite(-16622, all, all, all, 1<<48-1)},
	{6, api.Bits{0, 0, 0, 1 << 48}, finite(-16622, 0, 0, 0, 1<<48)},
	{6, api.Bits{0, 0, 0, 0x3fff000000000000}, finite(-240, 0, 0, 0, 1<<48)},
	{6, api.Bits{all, all, all, 0x7ffeffffffffffff}, finite(16143, all, all, all, 1<<49-1)},
	{6, api.Bits{0, 0, 0, 0x7fff000000000000}, api.Datum{Class: api.Infinite}},
	{6, api.Bits{1, 0, 0, 0x7fff000000000000}, nan(true, 1)},
	{6, api.Bits{all, all, all, 0x7fff7fffffffffff}, nan(true, all, all, all, 1<<47-1)},
	{6, api.Bits{0, 0, 0, 0x7fff800000000000}, nan(false)},
	{6, api.Bits{all, all, all, 0x7fffffffffffffff}, nan(false, all, all, all, 1<<47-1)},
}

// P5.1, P5.3: the edges with both signs.
func TestEdges(t *testing.T) {
	for _, c := range edges {
		for range 2 {
			if got, e := binary.Unpack(c.number, c.b); got != c.d || e != api.OK {
				t.Errorf("Unpack(%d, %x): %+v, %v", c.number, c.b, got, e)
			}
			if got, e := binary.Pack(c.number, c.d); got != c.b || e != api.OK {
				t.Errorf("Pack(%d, %+v): %x, %v", c.number, c.d, got, e)
			}
			width := formats[c.number-1].width
			c.d.Sign = true
			c.b[(width-1)/64] |= 1 << ((width - 1) % 64)
		}
	}
}

// P5.1: data that no pattern of Single means, each for one reason alone.
func TestPackNot(t *testing.T) {
	signals := finite(-149)
	signals.Signal = true
	for _, d := range []api.Datum{
		{},
		{Class: 4},
		{Class: -1, Exp: -149},
		signals,
		finite(-149, 1<<24),
		finite(-149, 0, 1),
		finite(-149, 0, 0, 0, 1<<63),
		finite(-150, 1<<23),
		finite(-150),
		finite(-148, 1<<23-1),
		finite(-148),
		finite(0),
		finite(0, 1),
		finite(105, 1<<23),
		finite(math.MinInt, 1<<23),
		finite(math.MaxInt, 1<<23),
		{Class: api.Infinite, Signal: true},
		{Class: api.Infinite, Exp: 1},
		{Class: api.Infinite, Exp: -149},
		{Class: api.Infinite, Coef: api.Bits{1}},
		{Class: api.Infinite, Coef: api.Bits{0, 0, 0, 1 << 63}},
		nan(true),
		nan(true, 1<<22),
		nan(false, 1<<22),
		nan(false, 0, 0, 0, 1<<63),
		{Class: api.NaN, Exp: 1},
		{Class: api.NaN, Exp: -1, Signal: true, Coef: api.Bits{1}},
	} {
		for _, sign := range []bool{false, true} {
			d.Sign = sign
			if got, e := binary.Pack(api.Single, d); got != (api.Bits{}) || e != api.ErrRange {
				t.Errorf("%+v: %x, %v", d, got, e)
			}
		}
	}
	if got, e := binary.Pack(api.Half, finite(-24, 2048)); got != (api.Bits{}) || e != api.ErrRange {
		t.Errorf("%x, %v", got, e)
	}
}

// P5.2: written-out answers of each class.
func TestQuietEdges(t *testing.T) {
	for _, c := range []struct {
		number  int
		b, want api.Bits
	}{
		{1, api.Bits{0x7c01}, api.Bits{0x7e01}},
		{1, api.Bits{0xfdff}, api.Bits{0xffff}},
		{1, api.Bits{0x7e00}, api.Bits{0x7e00}},
		{1, api.Bits{0x7c00}, api.Bits{0x7c00}},
		{1, api.Bits{0xfc00}, api.Bits{0xfc00}},
		{1, api.Bits{0x8000}, api.Bits{0x8000}},
		{1, api.Bits{0x7bff}, api.Bits{0x7bff}},
		{2, api.Bits{0x7f81}, api.Bits{0x7fc1}},
		{3, api.Bits{0x7f800001}, api.Bits{0x7fc00001}},
		{4, api.Bits{0xfff0000000000001}, api.Bits{0xfff8000000000001}},
		{5, api.Bits{7, 0xffff000000000000}, api.Bits{7, 0xffff800000000000}},
		{5, api.Bits{0, 0xffff000000000000}, api.Bits{0, 0xffff000000000000}},
		{6, api.Bits{0, 0, 1, 0x7fff000000000000}, api.Bits{0, 0, 1, 0x7fff800000000000}},
		{6, api.Bits{}, api.Bits{}},
	} {
		if got, e := binary.Quiet(c.number, c.b); got != c.want || e != api.OK {
			t.Errorf("Quiet(%d, %x): %x, %v", c.number, c.b, got, e)
		}
	}
}

// ldexp is a finite datum's number; its coefficient has at most 53 bits here, so nothing is rounded.
func ldexp(d api.Datum) float64 {
	f := math.Ldexp(float64(d.Coef[0]), d.Exp)
	if d.Sign {
		f = math.Copysign(f, -1)
	}
	return f
}

// agrees says whether a datum means the language's own number, to its zero's sign.
func agrees(d api.Datum, f float64) bool {
	switch d.Class {
	case api.Infinite:
		return math.IsInf(f, 0) && math.Signbit(f) == d.Sign
	case api.NaN:
		return math.IsNaN(f)
	}
	return math.Float64bits(ldexp(d)) == math.Float64bits(f)
}

// P5.1: Single and Double mean what the language's own numbers mean.
func TestNative(t *testing.T) {
	for _, b := range formats[2].patterns() {
		d, _ := binary.Unpack(api.Single, b)
		if f := float64(math.Float32frombits(uint32(b[0]))); !agrees(d, f) {
			t.Errorf("%x: %+v, %v", b, d, f)
		}
	}
	for _, b := range formats[3].patterns() {
		d, _ := binary.Unpack(api.Double, b)
		if f := math.Float64frombits(b[0]); !agrees(d, f) {
			t.Errorf("%x: %+v, %v", b, d, f)
		}
	}
}
