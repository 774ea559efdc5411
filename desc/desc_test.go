package desc_test

import (
	"math"
	"math/big"
	"testing"

	"caliper/api"
	"caliper/desc"
)

// formats is what DOC.md says of each format, worked out by hand.
var formats = []desc.Info{
	{Number: 1, Name: "Half", Base: 2, Width: 16, Precision: 11, Exponent: 5, Least: -24, Most: 5, Payload: 9},
	{Number: 2, Name: "Brain", Base: 2, Width: 16, Precision: 8, Exponent: 8, Least: -133, Most: 120, Payload: 6},
	{Number: 3, Name: "Single", Base: 2, Width: 32, Precision: 24, Exponent: 8, Least: -149, Most: 104, Payload: 22},
	{Number: 4, Name: "Double", Base: 2, Width: 64, Precision: 53, Exponent: 11, Least: -1074, Most: 971, Payload: 51},
	{Number: 5, Name: "Quad", Base: 2, Width: 128, Precision: 113, Exponent: 15, Least: -16494, Most: 16271, Payload: 111},
	{Number: 6, Name: "Octo", Base: 2, Width: 256, Precision: 241, Exponent: 15, Least: -16622, Most: 16143, Payload: 239},
	{Number: 7, Name: "Plain32", Base: 10, Width: 32, Precision: 7, Exponent: 96, Least: -101, Most: 90, Payload: 6},
	{Number: 8, Name: "Plain64", Base: 10, Width: 64, Precision: 16, Exponent: 384, Least: -398, Most: 369, Payload: 15},
	{Number: 9, Name: "Plain128", Base: 10, Width: 128, Precision: 34, Exponent: 6144, Least: -6176, Most: 6111, Payload: 33},
	{Number: 10, Name: "Dense32", Base: 10, Width: 32, Precision: 7, Exponent: 96, Least: -101, Most: 90, Payload: 6, Dense: true},
	{Number: 11, Name: "Dense64", Base: 10, Width: 64, Precision: 16, Exponent: 384, Least: -398, Most: 369, Payload: 15, Dense: true},
	{Number: 12, Name: "Dense128", Base: 10, Width: 128, Precision: 34, Exponent: 6144, Least: -6176, Most: 6111, Payload: 33, Dense: true},
}

// none are numbers that are no format's.
var none = []int{0, 13, -1, -3, -12, 14, 16, 255, 257, 1<<32 + 3, -1 << 32, math.MinInt, math.MinInt + 4, math.MaxInt}

// P4.1: all that Of tells of each format.
func TestOf(t *testing.T) {
	for _, want := range formats {
		if got, e := desc.Of(want.Number); got != want || e != api.OK {
			t.Errorf("Of(%d): %+v, %v", want.Number, got, e)
		}
	}
}

// P4.1, R5: what is no format is ErrArg, and nothing is told of it.
func TestOfNone(t *testing.T) {
	for _, number := range none {
		if got, e := desc.Of(number); got != (desc.Info{}) || e != api.ErrArg {
			t.Errorf("Of(%d): %+v, %v", number, got, e)
		}
	}
}

// P4.1: the format's numbers are those of api.
func TestOfNumbers(t *testing.T) {
	numbers := map[string]int{
		"Half": api.Half, "Brain": api.Brain, "Single": api.Single, "Double": api.Double, "Quad": api.Quad, "Octo": api.Octo,
		"Plain32": api.Plain32, "Plain64": api.Plain64, "Plain128": api.Plain128,
		"Dense32": api.Dense32, "Dense64": api.Dense64, "Dense128": api.Dense128,
	}
	for name, number := range numbers {
		if got, _ := desc.Of(number); got.Name != name {
			t.Errorf("%d is %s, not %s", number, got.Name, name)
		}
	}
}

// P4.1, R3: All is the twelve, rising, and a new list each time.
func TestAll(t *testing.T) {
	for range 2 {
		all := desc.All()
		if len(all) != len(formats) {
			t.Fatal(len(all))
		}
		for i, want := range formats {
			if all[i] != want {
				t.Errorf("at %d: %+v", i, all[i])
			}
		}
		clear(all[:cap(all)])
	}
	if got, e := desc.Of(5); got != formats[4] || e != api.OK {
		t.Errorf("%+v, %v", got, e)
	}
}

// holders are the formats that hold all of a format's finite numbers, itself among them.
var holders = map[int][]int{
	1: {1, 3, 4, 5, 6},
	2: {2, 3, 4, 5, 6},
	3: {3, 4, 5, 6},
	4: {4, 5, 6},
	5: {5, 6},
	6: {6},
	7: {7, 8, 9, 10, 11, 12}, 10: {7, 8, 9, 10, 11, 12},
	8: {8, 9, 11, 12}, 11: {8, 9, 11, 12},
	9: {9, 12}, 12: {9, 12},
}

// P4.2: each pair of formats, those of unlike Bases among them.
func TestHolds(t *testing.T) {
	for f := 1; f <= 12; f++ {
		var want [13]bool
		for _, g := range holders[f] {
			want[g] = true
		}
		for g := 1; g <= 12; g++ {
			if got := desc.Holds(f, g); got != want[g] {
				t.Errorf("Holds(%d, %d): %t", f, g, got)
			}
		}
	}
}

// isNumberOf says whether c times the format's Base^q is one of its finite numbers, by the words of DOC.md.
func isNumberOf(format desc.Info, c *big.Int, q int) bool {
	coefficient, base := new(big.Int).Set(c), big.NewInt(int64(format.Base))
	for q > format.Most {
		coefficient.Mul(coefficient, base)
		q--
	}
	for q < format.Least {
		rest := new(big.Int)
		if coefficient.QuoRem(coefficient, base, rest); rest.Sign() != 0 {
			return false
		}
		q++
	}
	bound := new(big.Int).Exp(base, big.NewInt(int64(format.Precision)), nil)
	// Above the bound noughts at the end may still go, as long as the exponent may rise.
	for coefficient.Cmp(bound) >= 0 && q < format.Most {
		rest := new(big.Int)
		if coefficient.QuoRem(coefficient, base, rest); rest.Sign() != 0 {
			return false
		}
		q++
	}
	return coefficient.Cmp(bound) < 0
}

// P4.2: a format that holds another has the numbers at its edges; one that doesn't lacks one of them.
func TestHoldsEdges(t *testing.T) {
	for _, f := range formats {
		greatest := new(big.Int).Exp(big.NewInt(int64(f.Base)), big.NewInt(int64(f.Precision)), nil)
		greatest.Sub(greatest, big.NewInt(1))
		for _, g := range formats {
			all := f.Base == g.Base
			for _, c := range []*big.Int{big.NewInt(1), greatest} {
				for _, q := range []int{f.Least, 0, f.Most} {
					all = all && isNumberOf(g, c, q)
				}
			}
			if got := desc.Holds(f.Number, g.Number); got != all {
				t.Errorf("Holds(%s, %s): %t", f.Name, g.Name, got)
			}
		}
	}
}

// P4.2: nothing holds what is no format, and that holds nothing, not even itself.
func TestHoldsNone(t *testing.T) {
	for _, f := range none {
		for _, g := range none {
			if desc.Holds(f, g) {
				t.Errorf("Holds(%d, %d)", f, g)
			}
		}
		for g := 1; g <= 12; g++ {
			if desc.Holds(f, g) || desc.Holds(g, f) {
				t.Errorf("%d and %d", f, g)
			}
		}
	}
}

// bit is the pattern whose one bit is at that place.
func bit(place int) api.Bits {
	var b api.Bits
	b[place/64] = 1 << (place % 64)
	return b
}

// upTo is the pattern of that many bits, all 1.
func upTo(width int) api.Bits {
	var b api.Bits
	for place := range width {
		b[place/64] |= 1 << (place % 64)
	}
	return b
}

// P4.2: of each format no bits, all bits within the Width, and each bit alone and beside those within.
func TestFits(t *testing.T) {
	for _, format := range formats {
		within := upTo(format.Width)
		if !desc.Fits(format.Number, api.Bits{}) || !desc.Fits(format.Number, within) {
			t.Error(format.Name, "doesn't fit its own bits")
		}
		for place := range 256 {
			alone := bit(place)
			beside := within
			beside[place/64] |= alone[place/64]
			want := place < format.Width
			if desc.Fits(format.Number, alone) != want || desc.Fits(format.Number, beside) != want {
				t.Errorf("%s: the bit at %d", format.Name, place)
			}
		}
		if format.Width < 256 && desc.Fits(format.Number, upTo(256)) {
			t.Error(format.Name, "fits all bits")
		}
	}
}

// P4.2: nothing fits what is no format.
func TestFitsNone(t *testing.T) {
	for _, number := range none {
		for _, b := range []api.Bits{{}, {1}, bit(255), upTo(16), upTo(256)} {
			if desc.Fits(number, b) {
				t.Errorf("%d, %x", number, b)
			}
		}
	}
}
