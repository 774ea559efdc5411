package crossin_test

import (
	"fmt"
	"math"
	"math/big"
	"strconv"
	"testing"

	"caliper/api"
	"caliper/crossin"
)

// The chapter's examples.
func TestExamples(t *testing.T) {
	converts(t, 10, 3, api.Even, api.Bits{0x22500001}, api.Bits{0x3f800000}, 0)
	converts(t, 11, 1, api.Even, numbered(11).digits(false, "1", 5), api.Bits{0x7c00}, overflow)
}

// TestPatterns holds patterns of both formats written out, without the oracle on either side.
func TestPatterns(t *testing.T) {
	ones := uint64(math.MaxUint64)
	for _, c := range []struct {
		from, to, direction int
		b, want             api.Bits
		flags               int
	}{
		// One, plain and dense, and minus 7.50.
		{7, api.Half, api.Down, api.Bits{0x32800001}, api.Bits{0x3c00}, 0},
		{8, api.Brain, api.Down, api.Bits{0x31c0000000000001}, api.Bits{0x3f80}, 0},
		{9, api.Single, api.Down, api.Bits{1, 0x3040000000000000}, api.Bits{0x3f800000}, 0},
		{10, api.Double, api.Up, api.Bits{0x22500001}, api.Bits{0x3ff0000000000000}, 0},
		{11, api.Quad, api.Up, api.Bits{0x2238000000000001}, api.Bits{0, 0x3fff000000000000}, 0},
		{12, api.Octo, api.Up, api.Bits{1, 0x2208000000000000}, api.Bits{0, 0, 0, 0x3fff000000000000}, 0},
		{7, api.Half, api.Up, api.Bits{0xb18002ee}, api.Bits{0xc780}, 0},
		{10, api.Half, api.Up, api.Bits{0xa23003d0}, api.Bits{0xc780}, 0},
		// A plain coefficient of 10^P - 1, and of 10^P, which counts as 0.
		{7, api.Double, api.Even, api.Bits{0x6cb8967f}, api.Bits{0x416312cfe0000000}, 0},
		{7, api.Double, api.Even, api.Bits{0x6cb89680}, api.Bits{}, 0},
		{7, api.Double, api.Up, api.Bits{0xecb89680}, api.Bits{1 << 63}, 0},
		{8, api.Half, api.Up, api.Bits{0x6c7386f26fc10000}, api.Bits{}, 0},
		{9, api.Half, api.Down, api.Bits{0x378d8e6400000000, 0xb041ed09bead87c0}, api.Bits{0x8000}, 0},
		// 999 by two declets, of which one is that of no number.
		{10, api.Half, api.Even, api.Bits{0x225000ff}, api.Bits{0x63ce}, 0},
		{10, api.Half, api.Even, api.Bits{0x225003ff}, api.Bits{0x63ce}, 0},
		// Infinities, with no other bits, with one and with all.
		{7, api.Half, api.Zero, api.Bits{0x78000000}, api.Bits{0x7c00}, 0},
		{7, api.Octo, api.Down, api.Bits{0x78000001}, api.Bits{0, 0, 0, 0x7fff000000000000}, 0},
		{8, api.Single, api.Down, api.Bits{0xf800000000000000}, api.Bits{0xff800000}, 0},
		{10, api.Double, api.Zero, api.Bits{0xfbffffff}, api.Bits{0xfff0000000000000}, 0},
		{12, api.Brain, api.Zero, api.Bits{ones, 0x7bffffffffffffff}, api.Bits{0x7f80}, 0},
		// NaNs: payloads that Half has, that it has not, and that are none.
		{7, api.Half, api.Even, api.Bits{0x7c0001ff}, api.Bits{0x7fff}, 0},
		{7, api.Half, api.Even, api.Bits{0x7c000200}, api.Bits{0x7e00}, 0},
		{7, api.Half, api.Even, api.Bits{0xfe0001ff}, api.Bits{0xffff}, invalid},
		{7, api.Half, api.Even, api.Bits{0xfe000200}, api.Bits{0xfe00}, invalid},
		{7, api.Double, api.Even, api.Bits{0x7c0f423f}, api.Bits{0x7ff80000000f423f}, 0},
		{7, api.Double, api.Even, api.Bits{0x7c0f4240}, api.Bits{0x7ff8000000000000}, 0},
		{10, api.Half, api.Even, api.Bits{0x7c000491}, api.Bits{0x7e00}, 0},
		{10, api.Single, api.Even, api.Bits{0x7dffffff}, api.Bits{0x7fcf423f}, 0},
		{10, api.Single, api.Even, api.Bits{0x7fffffff}, api.Bits{0x7fcf423f}, invalid},
		{9, api.Quad, api.Even, api.Bits{0x38c15b09ffffffff, 0x7e00314dc6448d93}, api.Bits{0x38c15b09ffffffff, 0x7fffb14dc6448d93}, invalid},
		{12, api.Octo, api.Even, api.Bits{7, 0xfe00000000000000}, api.Bits{7, 0, 0, 0xffff800000000000}, invalid},
	} {
		converts(t, c.from, c.to, c.direction, c.b, c.want, c.flags)
	}
}

// The sides of a number between two neighbours of a binary format.
const (
	exact = iota
	below
	middle
	above
)

// row is a decimal number, the binary one that lies at it or next to it towards 0 (the greatest one of what is greater still), on which side of the middle to the next one it lies, and the flags that go with either.
type row struct {
	digits            string
	exp, to           int
	low               api.Bits
	side              int
	lowFlag, nextFlag int
}

// rows are worked out apart from the oracle: by DOC.md's words, in fractions.
func rows() []row {
	return []row{
		{"1", 0, api.Half, api.Bits{0x3c00}, exact, 0, 0},
		{"1000", -3, api.Half, api.Bits{0x3c00}, exact, 0, 0},
		{"1", -1, api.Half, api.Bits{0x2e66}, below, inexact, inexact},
		{"10004", -4, api.Half, api.Bits{0x3c00}, below, inexact, inexact},
		{"100048828125", -11, api.Half, api.Bits{0x3c00}, middle, inexact, inexact},
		{"1000488281249999", -15, api.Half, api.Bits{0x3c00}, below, inexact, inexact},
		{"1000488281250001", -15, api.Half, api.Bits{0x3c00}, above, inexact, inexact},
		{"100146484375", -11, api.Half, api.Bits{0x3c01}, middle, inexact, inexact},
		{"1001464843749999", -15, api.Half, api.Bits{0x3c01}, below, inexact, inexact},
		{"1001464843750001", -15, api.Half, api.Bits{0x3c01}, above, inexact, inexact},
		{"2049", 0, api.Half, api.Bits{0x6800}, middle, inexact, inexact},
		{"2051", 0, api.Half, api.Bits{0x6801}, middle, inexact, inexact},
		{"4095", 0, api.Half, api.Bits{0x6bff}, middle, inexact, inexact},
		{"2047", 0, api.Half, api.Bits{0x67ff}, exact, 0, 0},
		{"65504", 0, api.Half, api.Bits{0x7bff}, exact, 0, 0},
		{"6550401", -2, api.Half, api.Bits{0x7bff}, below, inexact, overflow},
		{"6551999", -2, api.Half, api.Bits{0x7bff}, below, inexact, overflow},
		{"65520", 0, api.Half, api.Bits{0x7bff}, middle, inexact, overflow},
		{"6552001", -2, api.Half, api.Bits{0x7bff}, above, inexact, overflow},
		{"6553599", -2, api.Half, api.Bits{0x7bff}, above, inexact, overflow},
		{"65536", 0, api.Half, api.Bits{0x7bff}, above, overflow, overflow},
		{"1", 5, api.Half, api.Bits{0x7bff}, above, overflow, overflow},
		{"9999999", 90, api.Half, api.Bits{0x7bff}, above, overflow, overflow},
		{"2980232", -14, api.Half, api.Bits{0}, below, underflow, underflow},
		{"2980233", -14, api.Half, api.Bits{0}, above, underflow, underflow},
		{"298023223876953125", -25, api.Half, api.Bits{0}, middle, underflow, underflow},
		{"298023223876953124", -25, api.Half, api.Bits{0}, below, underflow, underflow},
		{"298023223876953126", -25, api.Half, api.Bits{0}, above, underflow, underflow},
		{"5960464", -14, api.Half, api.Bits{0}, above, underflow, underflow},
		{"5960465", -14, api.Half, api.Bits{1}, below, underflow, underflow},
		{"59604644775390625", -24, api.Half, api.Bits{1}, exact, 0, 0},
		{"894069671630859375", -25, api.Half, api.Bits{1}, middle, underflow, underflow},
		{"6103515625", -14, api.Half, api.Bits{0x400}, exact, 0, 0},
		{"6103515624", -14, api.Half, api.Bits{0x3ff}, above, underflow, underflow},
		{"6103515626", -14, api.Half, api.Bits{0x400}, below, inexact, inexact},
		{"610053539276123046875", -25, api.Half, api.Bits{0x3ff}, middle, underflow, underflow},
		{"610053539276123046874", -25, api.Half, api.Bits{0x3ff}, below, underflow, underflow},
		{"6097555160522460937500", -26, api.Half, api.Bits{0x3ff}, exact, 0, 0},
		{"61", -6, api.Half, api.Bits{0x3ff}, below, underflow, underflow},
		{"1", -101, api.Half, api.Bits{0}, below, underflow, underflow},
		{"1", 0, api.Brain, api.Bits{0x3f80}, exact, 0, 0},
		{"255", 0, api.Brain, api.Bits{0x437f}, exact, 0, 0},
		{"257", 0, api.Brain, api.Bits{0x4380}, middle, inexact, inexact},
		{"511", 0, api.Brain, api.Bits{0x43ff}, middle, inexact, inexact},
		{"1", -1, api.Brain, api.Bits{0x3dcc}, above, inexact, inexact},
		{"100390625", -8, api.Brain, api.Bits{0x3f80}, middle, inexact, inexact},
		{"1003906249", -9, api.Brain, api.Bits{0x3f80}, below, inexact, inexact},
		{"1003906251", -9, api.Brain, api.Bits{0x3f80}, above, inexact, inexact},
		{"3389531", 32, api.Brain, api.Bits{0x7f7e}, above, inexact, inexact},
		{"3389532", 32, api.Brain, api.Bits{0x7f7f}, below, inexact, overflow},
		{"3396177", 32, api.Brain, api.Bits{0x7f7f}, below, inexact, overflow},
		{"3396178", 32, api.Brain, api.Bits{0x7f7f}, above, inexact, overflow},
		{"3402823", 32, api.Brain, api.Bits{0x7f7f}, above, inexact, overflow},
		{"3402824", 32, api.Brain, api.Bits{0x7f7f}, above, overflow, overflow},
		{"4591774", -47, api.Brain, api.Bits{0}, below, underflow, underflow},
		{"4591775", -47, api.Brain, api.Bits{0}, above, underflow, underflow},
		{"9183549", -47, api.Brain, api.Bits{0}, above, underflow, underflow},
		{"9183550", -47, api.Brain, api.Bits{1}, below, underflow, underflow},
		{"1175494", -44, api.Brain, api.Bits{0x7f}, above, underflow, underflow},
		{"1175495", -44, api.Brain, api.Bits{0x80}, below, inexact, inexact},
		{"1", 0, api.Single, api.Bits{0x3f800000}, exact, 0, 0},
		{"1", -1, api.Single, api.Bits{0x3dcccccc}, above, inexact, inexact},
		{"9999999", 0, api.Single, api.Bits{0x4b18967f}, exact, 0, 0},
		{"16777215", 0, api.Single, api.Bits{0x4b7fffff}, exact, 0, 0},
		{"16777217", 0, api.Single, api.Bits{0x4b800000}, middle, inexact, inexact},
		{"16777219", 0, api.Single, api.Bits{0x4b800001}, middle, inexact, inexact},
		{"33554431", 0, api.Single, api.Bits{0x4bffffff}, middle, inexact, inexact},
		{"1000000059604644775390625", -24, api.Single, api.Bits{0x3f800000}, middle, inexact, inexact},
		{"1000000059604644775390624", -24, api.Single, api.Bits{0x3f800000}, below, inexact, inexact},
		{"1000000059604644775390626", -24, api.Single, api.Bits{0x3f800000}, above, inexact, inexact},
		{"3402823", 32, api.Single, api.Bits{0x7f7ffffc}, above, inexact, inexact},
		{"3402823466", 29, api.Single, api.Bits{0x7f7ffffe}, above, inexact, inexact},
		{"3402823467", 29, api.Single, api.Bits{0x7f7fffff}, below, inexact, overflow},
		{"3402823567", 29, api.Single, api.Bits{0x7f7fffff}, below, inexact, overflow},
		{"3402823568", 29, api.Single, api.Bits{0x7f7fffff}, above, inexact, overflow},
		{"3402824", 32, api.Single, api.Bits{0x7f7fffff}, above, overflow, overflow},
		{"7006492", -52, api.Single, api.Bits{0}, below, underflow, underflow},
		{"7006493", -52, api.Single, api.Bits{0}, above, underflow, underflow},
		{"1401298", -51, api.Single, api.Bits{0}, above, underflow, underflow},
		{"1401299", -51, api.Single, api.Bits{1}, below, underflow, underflow},
		{"1175494", -44, api.Single, api.Bits{0x7ffffd}, below, underflow, underflow},
		{"1175495", -44, api.Single, api.Bits{0x800004}, above, inexact, inexact},
		{"1", 39, api.Single, api.Bits{0x7f7fffff}, above, overflow, overflow},
		{"9999999999999999", 369, api.Single, api.Bits{0x7f7fffff}, above, overflow, overflow},
		{"1", -100, api.Single, api.Bits{0}, below, underflow, underflow},
		{"1", 0, api.Double, api.Bits{0x3ff0000000000000}, exact, 0, 0},
		{"1", -1, api.Double, api.Bits{0x3fb9999999999999}, above, inexact, inexact},
		{"9007199254740991", 0, api.Double, api.Bits{0x433fffffffffffff}, exact, 0, 0},
		{"9007199254740993", 0, api.Double, api.Bits{0x4340000000000000}, middle, inexact, inexact},
		{"9007199254740995", 0, api.Double, api.Bits{0x4340000000000001}, middle, inexact, inexact},
		{"18014398509481983", 0, api.Double, api.Bits{0x434fffffffffffff}, middle, inexact, inexact},
		{"2470328229206232", -339, api.Double, api.Bits{0}, below, underflow, underflow},
		{"2470328229206233", -339, api.Double, api.Bits{0}, above, underflow, underflow},
		{"4940656458412465", -339, api.Double, api.Bits{0}, above, underflow, underflow},
		{"4940656458412466", -339, api.Double, api.Bits{1}, below, underflow, underflow},
		{"2225073858507201", -323, api.Double, api.Bits{0xfffffffffffff}, below, underflow, underflow},
		{"2225073858507202", -323, api.Double, api.Bits{0x10000000000001}, below, inexact, inexact},
		{"1797693134862315", 293, api.Double, api.Bits{0x7feffffffffffffb}, below, inexact, inexact},
		{"17976931348623157", 292, api.Double, api.Bits{0x7feffffffffffffe}, above, inexact, inexact},
		{"17976931348623158", 292, api.Double, api.Bits{0x7fefffffffffffff}, below, inexact, overflow},
		{"179769313486231581", 291, api.Double, api.Bits{0x7fefffffffffffff}, above, inexact, overflow},
		{"1797693134862316", 293, api.Double, api.Bits{0x7fefffffffffffff}, above, overflow, overflow},
		{"9999999", 90, api.Double, api.Bits{0x5412ba093e5c6114}, below, inexact, inexact},
		{"1", -101, api.Double, api.Bits{0x2af665bf1d3e6a8c}, above, inexact, inexact},
		{"9999999999999999999999999999999999", 6111, api.Double, api.Bits{0x7fefffffffffffff}, above, overflow, overflow},
		{"1", 0, api.Quad, api.Bits{0, 0x3fff000000000000}, exact, 0, 0},
		{"1", -1, api.Quad, api.Bits{0x9999999999999999, 0x3ffb999999999999}, above, inexact, inexact},
		{"9999999999999999999999999999999999", 0, api.Quad, api.Bits{0x378d8e63ffffffff, 0x406fed09bead87c0}, exact, 0, 0},
		{"1", 34, api.Quad, api.Bits{0x378d8e6400000000, 0x406fed09bead87c0}, exact, 0, 0},
		{"2", 49, api.Quad, api.Bits{0xf6987819baecbe22, 0x40a2b5e7e08ca3a8}, middle, inexact, inexact},
		{"1189731495357231765085759326628007", 4899, api.Quad, api.Bits{0xfffffffffffffffe, 0x7ffeffffffffffff}, above, inexact, inexact},
		{"1189731495357231765085759326628008", 4899, api.Quad, api.Bits{0xffffffffffffffff, 0x7ffeffffffffffff}, above, overflow, overflow},
		{"2", 4932, api.Quad, api.Bits{0xffffffffffffffff, 0x7ffeffffffffffff}, above, overflow, overflow},
		{"6475175119438025", -4981, api.Quad, api.Bits{0}, above, underflow, underflow},
		{"6475175119438026", -4981, api.Quad, api.Bits{1}, below, underflow, underflow},
		{"3237587559719012", -4981, api.Quad, api.Bits{0}, below, underflow, underflow},
		{"3237587559719013", -4981, api.Quad, api.Bits{0}, above, underflow, underflow},
		{"9999999999999999999999999999999999", 6111, api.Quad, api.Bits{0xffffffffffffffff, 0x7ffeffffffffffff}, above, overflow, overflow},
		{"1", -6176, api.Quad, api.Bits{0}, below, underflow, underflow},
		{"9999999999999999", 369, api.Quad, api.Bits{0x9b60e91dc03ab30a, 0x44fdebeeb7a9b56d}, above, inexact, inexact},
		{"1", -398, api.Quad, api.Bits{0xd04df2bb5ffcb8fb, 0x3ad4d4bb49d85480}, above, inexact, inexact},
		{"1", 0, api.Octo, api.Bits{0, 0, 0, 0x3fff000000000000}, exact, 0, 0},
		{"1", -1, api.Octo, api.Bits{0x9999999999999999, 0x9999999999999999, 0x9999999999999999, 0x3ffb999999999999}, above, inexact, inexact},
		{"9999999999999999999999999999999999", 0, api.Octo, api.Bits{0, 0, 0x378d8e63ffffffff, 0x406fed09bead87c0}, exact, 0, 0},
		{"1", 34, api.Octo, api.Bits{0, 0, 0x378d8e6400000000, 0x406fed09bead87c0}, exact, 0, 0},
		{"1", 104, api.Octo, api.Bits{0xe5e9ad4114cd5a30, 0x6caf0c5cd7f68d52, 0x1fceb1dbd923d859, 0x4158652efdc6018a}, middle, inexact, inexact},
		{"1189731495357231765085759326628007", 4899, api.Octo, api.Bits{0x9a789c4524e41c6, 0xdbcf1919e0ad10f4, 0xfffffffffffffffe, 0x7ffeffffffffffff}, above, inexact, inexact},
		{"1189731495357231765085759326628008", 4899, api.Octo, api.Bits{0xffffffffffffffff, 0xffffffffffffffff, 0xffffffffffffffff, 0x7ffeffffffffffff}, above, overflow, overflow},
		{"1902863", -5010, api.Octo, api.Bits{0}, above, underflow, underflow},
		{"1", -5004, api.Octo, api.Bits{0}, above, underflow, underflow},
		{"9999999999999999999999999999999999", 6111, api.Octo, api.Bits{0xffffffffffffffff, 0xffffffffffffffff, 0xffffffffffffffff, 0x7ffeffffffffffff}, above, overflow, overflow},
		{"1", -6176, api.Octo, api.Bits{0}, below, underflow, underflow},
		{"9999999", 90, api.Octo, api.Bits{0xba7aff49e4a6c700, 0x53a4fb22c076a17e, 0x4735dacf25995a53, 0x41412ba093e5c611}, exact, 0, 0},
		{"1", -101, api.Octo, api.Bits{0xc6f8e9c94b583ddb, 0x57f2009d6d38ea5d, 0xcac88f273045b92d, 0x3eaf665bf1d3e6a8}, below, inexact, inexact},
		{"9514", -5008, api.Octo, api.Bits{0}, below, underflow, underflow},
		{"9515", -5008, api.Octo, api.Bits{0}, above, underflow, underflow},
	}
}

// lies fails unless a pattern without sign, whose number lies at or beyond low on that side, becomes what it must in each direction, with both signs.
func (f source) lies(t *testing.T, g target, b api.Bits, low *big.Int, side, lowFlags, nextFlags int) {
	t.Helper()
	next := plus(low, 1)
	even, away := low, low
	switch side {
	case exact:
		next = low
	case middle:
		away = next
		if low.Bit(0) == 1 {
			even = next
		}
	case above:
		even, away = next, next
	}
	for _, sign := range signs {
		up, down := next, low
		if sign {
			b, up, down = f.negated(b), low, next
		}
		for i, want := range []*big.Int{even, away, low, up, down} {
			flags := lowFlags
			if want == next {
				flags = nextFlags
			}
			converts(t, f.number, g.number, directions[i], b, g.signed(want, sign), flags)
		}
	}
}

// P18.1: rows written out, in every decimal format that has the number.
func TestP18_1_Rows(t *testing.T) {
	for _, c := range rows() {
		tried := 0
		for _, f := range sources {
			if len(c.digits) > f.precision || c.exp < f.least || c.exp > f.most {
				continue
			}
			f.lies(t, targets[c.to-1], f.digits(false, c.digits, c.exp), toBig(c.low), c.side, c.lowFlag, c.nextFlag)
			tried++
		}
		if tried < 2 {
			t.Errorf("%se%d is of %d formats", c.digits, c.exp, tried)
		}
	}
}

// exps are exponents at both bounds, about 0, where the field's two highest bits change, with each bit of the field alone, and about where every binary format begins and ends.
func (f source) exps() []int {
	greatest := f.most - f.least
	quarter := (greatest + 1) / 3
	list := []int{f.least, f.least + 1, -1, 0, 1, f.most - 1, f.most}
	for _, field := range []int{quarter - 1, quarter, quarter + 1, 2*quarter - 1, 2 * quarter, 2*quarter + 1, greatest / 2} {
		list = append(list, field+f.least)
	}
	for field := 1; field < greatest; field *= 2 {
		list = append(list, field+f.least)
	}
	for _, place := range []int{-5005, -5004, -4966, -4932, -324, -308, -46, -45, -41, -38, -8, -5, 4, 38, 308, 4932} {
		for _, exp := range []int{place, place - f.precision/2, place - f.precision + 1} {
			if exp >= f.least && exp <= f.most {
				list = append(list, exp)
			}
		}
	}
	return list
}

// coefs are coefficients as digits: of 0, of one digit, of every number of digits, of all with each first digit, of nines, and those about which a plain pattern changes its shape.
func (f source) coefs() []string {
	list := []string{"0"}
	for digit := 1; digit <= 9; digit++ {
		first := strconv.Itoa(digit)
		list = append(list, first, first+noughts(f.precision-1), first+drawn(f.precision-1, uint64(digit)))
	}
	for count := 2; count <= f.precision; count++ {
		list = append(list, nines(count), drawn(count, uint64(count)))
	}
	for more := int64(-1); more <= 1; more++ {
		list = append(list, plus(two(f.t+3), more).String())
	}
	return list
}

// P18.1: coefficients of every kind at exponents of every kind, with both signs, in every direction.
func TestP18_1_Finite(t *testing.T) {
	each(t, func(t *testing.T, f source) {
		for i, digits := range f.coefs() {
			for j, exp := range f.exps() {
				// Of the widest formats each coefficient goes with some exponents, and each exponent with some coefficients.
				if f.width < 128 || (i+j)%5 == 0 {
					f.goes(t, f.digits(false, digits, exp))
				}
			}
		}
	})
}

// P18.1: every exponent of a format, with 1, nines, and drawn coefficients in turn.
func TestP18_1_EveryExponent(t *testing.T) {
	each(t, func(t *testing.T, f source) {
		for exp := f.least; exp <= f.most; exp++ {
			list := []string{"1", nines(f.precision), drawn(f.precision, uint64(exp-f.least))}
			turn := exp - f.least
			if f.width == 128 {
				list = list[turn%3 : turn%3+1]
			}
			for _, digits := range list {
				f.turn(t, directions[turn%5], f.digits(turn%2 == 1, digits, exp))
			}
		}
	})
}

// P18.1: 0 with every exponent and both signs is 0 with the sign, and raises nothing.
func TestP18_1_Noughts(t *testing.T) {
	each(t, func(t *testing.T, f source) {
		for exp := f.least; exp <= f.most; exp++ {
			for _, sign := range signs {
				b := f.digits(sign, "0", exp)
				for _, g := range targets {
					converts(t, f.number, g.number, directions[(exp-f.least)%5], b, g.signed(new(big.Int), sign), 0)
				}
			}
		}
		for _, exp := range f.exps() {
			for _, g := range targets {
				always(t, f.number, g.number, f.digits(false, "0", exp), nothing, 0)
				always(t, f.number, g.number, f.digits(true, "0", exp), g.signed(new(big.Int), true), 0)
			}
		}
	})
}

// P18.1: plain coefficients from 10^P on count as 0, with the sign, at every kind of exponent, however small or great.
func TestP18_1_TooGreat(t *testing.T) {
	for _, f := range sources[:3] {
		bound := ten(f.precision)
		greatest := plus(times(big.NewInt(10), two(f.t)), -1)
		for _, exp := range f.exps() {
			for _, coef := range []*big.Int{bound, plus(bound, 1), plus(greatest, -1), greatest} {
				lead, rest := new(big.Int).DivMod(coef, two(f.t), new(big.Int))
				b := f.pattern("0" + f.combined(exp, int(lead.Int64())) + f.rest(rest))
				for _, g := range targets {
					always(t, f.number, g.number, b, nothing, 0)
					always(t, f.number, g.number, f.negated(b), g.signed(new(big.Int), true), 0)
				}
			}
			f.goes(t, f.finite(false, plus(bound, -1), exp))
		}
	}
}

// P18.1: the 24 declets of no number, each alone at each place, count as what they mean, in numbers and in payloads.
func TestP18_1_Declets(t *testing.T) {
	if len(others) != 24 {
		t.Fatalf("%d declets are of no number", len(others))
	}
	for _, f := range sources[3:] {
		for i, text := range others {
			for place := range f.declets {
				worth := times(big.NewInt(int64(declets[text])), ten(3*place))
				tail := noughts(f.t-10*place-10) + text + noughts(10*place)
				lead := (i + place) % 10
				coef := plus(worth, 0).Add(worth, times(big.NewInt(int64(lead)), ten(f.precision-1)))
				exp := f.exps()[(i+place)%len(f.exps())]
				f.alike(t, f.pattern("0"+f.combined(exp, lead)+tail), f.finite(false, coef, exp))
				f.alike(t, f.pattern("0111110"+noughts(f.g-6)+tail), f.nan(false, false, worth))
				f.alike(t, f.pattern("1111111"+noughts(f.g-6)+tail), f.nan(true, true, worth))
			}
		}
	}
}

// P18.1: infinities, whatever other bits are set, are infinite with the sign, and raise nothing.
func TestP18_1_Infinities(t *testing.T) {
	each(t, func(t *testing.T, f source) {
		for _, sign := range signs {
			own := f.infinity(sign)
			for place := range f.width - 6 {
				for _, more := range []*big.Int{new(big.Int), two(place), plus(two(place+1), -1), high(uint64(place), f.width-6)} {
					for _, g := range targets {
						always(t, f.number, g.number, with(own, more), g.signed(g.infinity(), sign), 0)
					}
				}
			}
		}
	})
}

// payloads are those at the format's own edges and at every binary format's, and some of every number of digits.
func (f source) payloads() []*big.Int {
	bound := ten(f.precision - 1)
	list := []*big.Int{new(big.Int), big.NewInt(1), big.NewInt(2), plus(bound, -2), plus(bound, -1)}
	for _, g := range targets {
		for more := int64(-2); more <= 2; more++ {
			list = append(list, plus(two(g.precision-2), more))
		}
	}
	for count := 1; count < f.precision; count++ {
		list = append(list, ten(count-1), parsed(drawn(count, uint64(count)), 10))
	}
	var within []*big.Int
	for _, payload := range list {
		if payload.Cmp(bound) < 0 {
			within = append(within, payload)
		}
	}
	return within
}

// P18.1: NaNs quiet and signalling, of both signs: the payload stays, or is 0 where it is too great; just Invalid of those that signalled. G's bits behind the sixth one mean nothing.
func TestP18_1_NaNs(t *testing.T) {
	for _, f := range sources {
		for _, g := range targets {
			kept, lost := 0, 0
			for i, payload := range f.payloads() {
				want := new(big.Int).Add(g.infinity(), two(g.precision-2))
				if payload.BitLen() <= g.precision-2 {
					want.Add(want, payload)
					kept++
				} else {
					lost++
				}
				for _, sign := range signs {
					quiet, loud := f.nan(sign, false, payload), f.nan(sign, true, payload)
					always(t, f.number, g.number, quiet, g.signed(want, sign), 0)
					always(t, f.number, g.number, loud, g.signed(want, sign), invalid)
					more := two(f.t + i%(f.g-6))
					always(t, f.number, g.number, with(quiet, more), g.signed(want, sign), 0)
					always(t, f.number, g.number, with(loud, more), g.signed(want, sign), invalid)
				}
			}
			// 2^(P - 2) against 10^(P - 1): which binary formats have all payloads of a decimal one.
			holds := two(g.precision-2).Cmp(ten(f.precision-1)) >= 0
			if kept == 0 || (lost == 0) != holds {
				t.Errorf("%d to %d: %d payloads are kept, %d are lost", f.number, g.number, kept, lost)
			}
		}
	}
}

// P18.1: a plain payload from 10^(P - 1) on counts as 0, and signals as before.
func TestP18_1_PayloadsTooGreat(t *testing.T) {
	for _, f := range sources[:3] {
		bound := ten(f.precision - 1)
		for _, payload := range []*big.Int{bound, plus(bound, 1), plus(two(f.t), -2), plus(two(f.t), -1)} {
			for _, g := range targets {
				nought := new(big.Int).Add(g.infinity(), two(g.precision-2))
				for _, sign := range signs {
					always(t, f.number, g.number, with(f.nan(sign, false, new(big.Int)), payload), g.signed(nought, sign), 0)
					always(t, f.number, g.number, with(f.nan(sign, true, new(big.Int)), payload), g.signed(nought, sign), invalid)
				}
			}
		}
	}
}

// P18.1: every G, with a T that follows from it.
func TestP18_1_EveryG(t *testing.T) {
	each(t, func(t *testing.T, f source) {
		classes := map[int]int{}
		step := 1
		if f.width == 128 {
			// No factor of the fields' sizes, so that all of G's bits change.
			step = 7
		}
		for g := 0; g < 1<<f.g; g += step {
			b := f.pattern(fmt.Sprintf("%b%0*b%0*b", g>>1%2, f.g, g, f.t, high(uint64(g), f.t)))
			f.turn(t, directions[g%5], b)
			classes[f.meaning(b).Class]++
		}
		if classes[api.Infinite] < 1<<f.g/32/step || classes[api.NaN] < 1<<f.g/32/step {
			t.Errorf("%d: %v", f.number, classes)
		}
	})
}

// P18.1: each bit of a pattern alone, all below it, and all above it.
func TestP18_1_SingleBits(t *testing.T) {
	each(t, func(t *testing.T, f source) {
		for place := range f.width {
			f.goes(t, toBits(two(place)))
			f.goes(t, toBits(plus(two(place+1), -1)))
			f.goes(t, toBits(new(big.Int).Sub(two(f.width), two(place))))
		}
	})
}

// P18.1: many drawn patterns, some of them with G's highest bits set, and many drawn numbers, most of them within the binary formats' reach.
func TestP18_1_Drawn(t *testing.T) {
	each(t, func(t *testing.T, f source) {
		classes := map[int]int{}
		for seed := range uint64(900) {
			draw := high(seed+1<<20, f.width)
			for place := range seed % 3 * 2 {
				draw.SetBit(draw, f.width-2-int(place), 1)
			}
			b := toBits(draw)
			classes[f.meaning(b).Class]++
			f.goes(t, b)
		}
		if len(classes) != 3 {
			t.Errorf("%d: %v", f.number, classes)
		}
		for seed := range uint64(900) {
			reach := []int{12, 100, 700, 12000}[seed%4]
			exp := int(high(seed+1<<21, 30).Int64())%reach - reach/2
			f.goes(t, f.digits(false, drawn(1+int(seed/4)%f.precision, seed), min(max(exp, f.least), f.most)))
		}
	})
}

// P18.1: into Single and Double, to the nearest, as the language reads the same numbers.
func TestP18_1_Language(t *testing.T) {
	each(t, func(t *testing.T, f source) {
		for seed := range uint64(6000) {
			reach := []int{20, 120, 760}[seed%3]
			exp := min(max(int(high(seed+1<<22, 30).Int64())%reach-reach/2-f.precision/2, f.least), f.most)
			digits, sign, text := drawn(1+int(seed/3)%f.precision, seed), seed%2 == 1, ""
			if sign {
				text = "-"
			}
			text += digits + "e" + strconv.Itoa(exp)
			b := f.digits(sign, digits, exp)
			// What overflows is infinite there too, beside an error.
			single, _ := strconv.ParseFloat(text, 32)
			double, _ := strconv.ParseFloat(text, 64)
			if got, _, errno := crossin.Convert(f.number, api.Single, api.Even, b); got != (api.Bits{uint64(math.Float32bits(float32(single)))}) || errno != api.OK {
				t.Errorf("%s of %d in Single: %x %d", text, f.number, got, errno)
			}
			if got, _, errno := crossin.Convert(f.number, api.Double, api.Even, b); got != (api.Bits{math.Float64bits(double)}) || errno != api.OK {
				t.Errorf("%s of %d in Double: %x %d", text, f.number, got, errno)
			}
		}
	})
}
