package transcode_test

import (
	"math"
	"math/big"
	"sync"
	"testing"

	"caliper/api"
	"caliper/desc"
	"caliper/transcode"
)

const ones = math.MaxUint64

// The chapter's examples.
func TestExamples(t *testing.T) {
	codes(t, 7, api.Bits{0x32800001}, api.Bits{0x22500001})
	codes(t, 10, api.Bits{0x22500001}, api.Bits{0x32800001})
}

// P17.1: every decimal format and its twin.
func TestP17_1_Twin(t *testing.T) {
	for number, want := range map[int]int{7: 10, 8: 11, 9: 12, 10: 7, 11: 8, 12: 9} {
		if twin, errno := transcode.Twin(number); twin != want || errno != api.OK {
			t.Errorf("Twin(%d): %d, %d; want %d", number, twin, errno, want)
		}
		own, _ := desc.Of(number)
		other, _ := desc.Of(want)
		if own.Width != other.Width || own.Dense == other.Dense {
			t.Errorf("%+v and %+v", own, other)
		}
	}
}

// pair is two canonical patterns that mean the same, written out: said without the oracle and without another layer.
type pair struct {
	plain        int
	first, other api.Bits
}

// The pairs of each width: noughts, ones, first digits below and above 7, the least and the greatest numbers, infinities, NaNs.
var pairs = []pair{
	{7, api.Bits{0}, api.Bits{0}},
	{7, api.Bits{1}, api.Bits{1}},
	{7, api.Bits{0x32800000}, api.Bits{0x22500000}},
	{7, api.Bits{0x32800001}, api.Bits{0x22500001}},
	{7, api.Bits{0x328003e8}, api.Bits{0x22500400}},
	{7, api.Bits{0x328f4240}, api.Bits{0x26500000}},
	{7, api.Bits{0x32eacfc0}, api.Bits{0x3e500000}},
	{7, api.Bits{0x32fa1200}, api.Bits{0x6a500000}},
	{7, api.Bits{0x6ca95440}, api.Bits{0x6e500000}},
	{7, api.Bits{0x60095440}, api.Bits{0x64000000}},
	{7, api.Bits{0x6cb8967f}, api.Bits{0x6e53fcff}},
	{7, api.Bits{0x5f800000}, api.Bits{0x43f00000}},
	{7, api.Bits{0x77f8967f}, api.Bits{0x77f3fcff}},
	{7, api.Bits{0x318002ee}, api.Bits{0x223003d0}},
	{7, api.Bits{0x78000000}, api.Bits{0x78000000}},
	{7, api.Bits{0x7c000000}, api.Bits{0x7c000000}},
	{7, api.Bits{0x7c00000a}, api.Bits{0x7c000010}},
	{7, api.Bits{0x7c0f423f}, api.Bits{0x7c03fcff}},
	{7, api.Bits{0x7e000000}, api.Bits{0x7e000000}},
	{7, api.Bits{0x7e000005}, api.Bits{0x7e000005}},
	{7, api.Bits{0x7e0f423f}, api.Bits{0x7e03fcff}},

	{8, api.Bits{0}, api.Bits{0}},
	{8, api.Bits{0x31c0000000000001}, api.Bits{0x2238000000000001}},
	{8, api.Bits{0x31800000000002ee}, api.Bits{0x22300000000003d0}},
	{8, api.Bits{0x77fb86f26fc0ffff}, api.Bits{0x77fcff3fcff3fcff}},
	{8, api.Bits{0x7800000000000000}, api.Bits{0x7800000000000000}},
	{8, api.Bits{0x7c038d7ea4c67fff}, api.Bits{0x7c00ff3fcff3fcff}},
	{8, api.Bits{0x7e00000000000001}, api.Bits{0x7e00000000000001}},

	{9, api.Bits{0}, api.Bits{0}},
	{9, api.Bits{1, 0x3040000000000000}, api.Bits{1, 0x2208000000000000}},
	{9, api.Bits{750, 0x303c000000000000}, api.Bits{0x3d0, 0x2207800000000000}},
	{9, api.Bits{0x378d8e63ffffffff, 0x5fffed09bead87c0}, api.Bits{0xf3fcff3fcff3fcff, 0x77ffcff3fcff3fcf}},
	{9, api.Bits{0, 0x7800000000000000}, api.Bits{0, 0x7800000000000000}},
	{9, api.Bits{0x38c15b09ffffffff, 0x7c00314dc6448d93}, api.Bits{0xf3fcff3fcff3fcff, 0x7c000ff3fcff3fcf}},
	{9, api.Bits{7, 0x7e00000000000000}, api.Bits{7, 0x7e00000000000000}},
}

// P17.1, P17.2: the pairs, in both directions and with both signs.
func TestP17_1_Pairs(t *testing.T) {
	for _, c := range pairs {
		f := numbered(c.plain)
		for range signs {
			codes(t, f.number, c.first, c.other)
			codes(t, f.twin, c.other, c.first)
			f.oneText(t, c.first, c.other)
			c.first, c.other = f.negated(c.first), f.negated(c.other)
		}
	}
}

// P17.1, P17.2: patterns that aren't canonical, written out with their Codes, and with what these are in the first format.
func TestP17_1_OtherPairs(t *testing.T) {
	for _, c := range []struct {
		number       int
		b, code, own api.Bits
	}{
		// Coefficients from 10^P on count as 0; the exponent stays.
		{7, api.Bits{0x60189680}, api.Bits{0}, api.Bits{0}},
		{7, api.Bits{0x6cb89680}, api.Bits{0x22500000}, api.Bits{0x32800000}},
		{7, api.Bits{0x77ffffff}, api.Bits{0x43f00000}, api.Bits{0x5f800000}},
		{8, api.Bits{0x6c7386f26fc10000}, api.Bits{0x2238000000000000}, api.Bits{0x31c0000000000000}},
		{9, api.Bits{0x378d8e6400000000, 0x3041ed09bead87c0}, api.Bits{0, 0x2208000000000000}, api.Bits{0, 0x3040000000000000}},
		{9, api.Bits{1, 0x6c10000000000000}, api.Bits{0, 0x2208000000000000}, api.Bits{0, 0x3040000000000000}},
		// Declets of no number.
		{10, api.Bits{0x225003ff}, api.Bits{0x328003e7}, api.Bits{0x225000ff}},
		{10, api.Bits{0x77ffffff}, api.Bits{0x77f8967f}, api.Bits{0x77f3fcff}},
		{11, api.Bits{0x22380000000003ff}, api.Bits{0x31c00000000003e7}, api.Bits{0x22380000000000ff}},
		{11, api.Bits{0x77ffffffffffffff}, api.Bits{0x77fb86f26fc0ffff}, api.Bits{0x77fcff3fcff3fcff}},
		{12, api.Bits{ones, 0x77ffffffffffffff}, api.Bits{0x378d8e63ffffffff, 0x5fffed09bead87c0}, api.Bits{0xf3fcff3fcff3fcff, 0x77ffcff3fcff3fcf}},
		// Infinities with bits behind the five.
		{7, api.Bits{0x78000001}, api.Bits{0x78000000}, api.Bits{0x78000000}},
		{7, api.Bits{0x7a000000}, api.Bits{0x78000000}, api.Bits{0x78000000}},
		{10, api.Bits{0x7bffffff}, api.Bits{0x78000000}, api.Bits{0x78000000}},
		{8, api.Bits{0x7804000000000000}, api.Bits{0x7800000000000000}, api.Bits{0x7800000000000000}},
		{12, api.Bits{1, 0x7800000000000000}, api.Bits{0, 0x7800000000000000}, api.Bits{0, 0x7800000000000000}},
		// NaNs with bits of G behind the sixth one, and with payloads that are none.
		{7, api.Bits{0x7c0f4240}, api.Bits{0x7c000000}, api.Bits{0x7c000000}},
		{7, api.Bits{0x7e0f4240}, api.Bits{0x7e000000}, api.Bits{0x7e000000}},
		{7, api.Bits{0x7d00000a}, api.Bits{0x7c000010}, api.Bits{0x7c00000a}},
		{7, api.Bits{0x7fffffff}, api.Bits{0x7e000000}, api.Bits{0x7e000000}},
		{8, api.Bits{0x7c038d7ea4c68000}, api.Bits{0x7c00000000000000}, api.Bits{0x7c00000000000000}},
		{9, api.Bits{0x38c15b0a00000000, 0x7e00314dc6448d93}, api.Bits{0, 0x7e00000000000000}, api.Bits{0, 0x7e00000000000000}},
		{10, api.Bits{0x7c100010}, api.Bits{0x7c00000a}, api.Bits{0x7c000010}},
		{10, api.Bits{0x7fffffff}, api.Bits{0x7e0f423f}, api.Bits{0x7e03fcff}},
		{11, api.Bits{0x7c0000000000036e}, api.Bits{0x7c00000000000378}, api.Bits{0x7c0000000000006e}},
		{12, api.Bits{ones, 0x7fffffffffffffff}, api.Bits{0x38c15b09ffffffff, 0x7e00314dc6448d93}, api.Bits{0xf3fcff3fcff3fcff, 0x7e000ff3fcff3fcf}},
	} {
		f := numbered(c.number)
		for range signs {
			codes(t, f.number, c.b, c.code)
			codes(t, f.twin, c.code, c.own)
			codes(t, f.number, c.own, c.code)
			f.oneText(t, c.b, c.code)
			c.b, c.code, c.own = f.negated(c.b), f.negated(c.code), f.negated(c.own)
		}
	}
}

// others are numbers of formats that aren't decimal, and numbers of none.
var others = []int{1, 2, 3, 4, 5, 6, 0, 13, 14, 15, -1, -2, -3, -7, -8, -9, -10, -11, -12, 16, 71, 256 + 7, 1<<16 + 8, 1<<32 + 7, 1<<32 + 12, -1<<32 + 10, math.MinInt, math.MinInt + 7, math.MinInt + 10, math.MaxInt, math.MaxInt - 1, math.MaxInt - 3, math.MaxInt - 5}

// refused fails unless Code answers ErrArg and nothing else.
func refused(t *testing.T, number int, b api.Bits) {
	t.Helper()
	if code, errno := transcode.Code(number, b); code != nothing || errno != api.ErrArg {
		t.Errorf("Code(%d, %x): %x, %d", number, b, code, errno)
	}
}

// P17.1, R5, R6: what is no decimal format is ErrArg, whatever the pattern: one of a decimal format, one with bits beyond every width.
func TestP17_1_OtherFormats(t *testing.T) {
	for _, number := range others {
		if twin, errno := transcode.Twin(number); twin != 0 || errno != api.ErrArg {
			t.Errorf("Twin(%d): %d, %d", number, twin, errno)
		}
		for _, b := range []api.Bits{{}, {1}, {0x32800001}, {0x22500001}, {0x78000000}, {0x7c000005}, {0x7e000005}, {1 << 16}, {1 << 32}, {0, 1}, {0, 0, 1}, {0, 0, 0, 1 << 63}, {ones, ones, ones, ones}} {
			refused(t, number, b)
		}
	}
}

// P17.1, R5, R6: a pattern with bits beyond the width is ErrArg, whatever stands below them.
func TestP17_1_TooWide(t *testing.T) {
	for _, f := range formats {
		below := []api.Bits{
			{},
			{1},
			f.made(finite(false, "1", 0)),
			f.made(finite(true, nines(f.precision), f.most)),
			f.made(api.Datum{Class: api.Infinite}),
			f.made(api.Datum{Class: api.NaN, Coef: api.Bits{5}}),
			f.made(api.Datum{Class: api.NaN, Sign: true, Signal: true}),
			toBits(plus(two(f.width), -1)),
		}
		for _, b := range below {
			f.check(t, b)
			for place := f.width; place < 256; place++ {
				refused(t, f.number, with(b, two(place)))
				refused(t, f.number, with(b, new(big.Int).Sub(two(256), two(place))))
			}
		}
		for seed := range uint64(200) {
			b := toBits(scattered(seed))
			// At least one bit beyond the width.
			b[3] |= 1
			refused(t, f.number, b)
		}
	}
}

// R2: the same arguments have the same answers, whatever was asked in between.
func TestSameAnswers(t *testing.T) {
	for range 3 {
		codes(t, 7, api.Bits{0x32800001}, api.Bits{0x22500001})
		refused(t, 7, api.Bits{1 << 32})
		codes(t, 10, api.Bits{0x77ffffff}, api.Bits{0x77f8967f})
		refused(t, 6, api.Bits{1})
		codes(t, 8, api.Bits{0x7e00000000000001}, api.Bits{0x7e00000000000001})
	}
}

// R2: what is answered doesn't hang on what is asked at the same time.
func TestTogether(t *testing.T) {
	var wait sync.WaitGroup
	for _, f := range formats {
		for seed := range uint64(40) {
			wait.Go(func() { f.check(t, toBits(high(seed+1<<40, f.width))) })
		}
	}
	wait.Wait()
}

// R1, P17.1: whatever number and pattern, Code ends, and answers as the oracle does, or ErrArg and nothing else.
func FuzzCode(f *testing.F) {
	for _, number := range append(others, 7, 8, 9, 10, 11, 12) {
		f.Add(number, uint64(0x77f3fcff), uint64(0), uint64(0), uint64(0))
		f.Add(number, uint64(ones), uint64(0x7fffffffffffffff), uint64(0), uint64(0))
		f.Add(number, uint64(1), uint64(0), uint64(0), uint64(1)<<63)
	}
	f.Fuzz(func(t *testing.T, number int, a, b, c, d uint64) {
		bits := api.Bits{a, b, c, d}
		if number < api.Plain32 || number > api.Dense128 || toBig(bits).BitLen() > numbered(number).width {
			refused(t, number, bits)
			return
		}
		numbered(number).check(t, bits)
	})
}
