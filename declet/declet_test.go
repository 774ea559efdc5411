package declet_test

import (
	"testing"

	"caliper/api"
	"caliper/declet"
)

// The chapter's examples.
func TestExamples(t *testing.T) {
	checkEncode(t, 5, 5, api.OK)
	checkEncode(t, 999, 255, api.OK)
	checkEncode(t, 80, 10, api.OK)
	checkDecode(t, 1023, 999, api.OK)
}

// P13.1: numbers of every row, worked out by hand from the table: they don't hang on the oracle.
func TestP13_1_ByHand(t *testing.T) {
	for _, c := range []struct{ n, d int }{
		{0, 0b000_000_0000},
		{7, 0b000_000_0111},
		{10, 0b000_001_0000},
		{42, 0b000_100_0010},
		{100, 0b001_000_0000},
		{123, 0b001_010_0011},
		{246, 0b010_100_0110},
		{555, 0b101_101_0101},
		{731, 0b111_011_0001},
		{777, 0b111_111_0111},
		{8, 0b000_000_1000},
		{9, 0b000_000_1001},
		{79, 0b000_111_1001},
		{258, 0b010_101_1000},
		{648, 0b110_100_1000},
		{81, 0b000_000_1011},
		{92, 0b000_011_1010},
		{187, 0b001_110_1011},
		{384, 0b011_100_1010},
		{695, 0b110_101_1011},
		{800, 0b000_000_1100},
		{812, 0b010_001_1100},
		{926, 0b111_010_1100},
		{964, 0b101_110_1100},
		{88, 0b000_100_1110},
		{99, 0b000_101_1111},
		{298, 0b010_101_1110},
		{789, 0b111_100_1111},
		{808, 0b000_010_1110},
		{828, 0b010_010_1110},
		{949, 0b101_010_1111},
		{978, 0b111_011_1110},
		{880, 0b000_000_1110},
		{884, 0b100_000_1110},
		{893, 0b010_001_1111},
		{986, 0b111_000_1110},
		{888, 0b000_110_1110},
		{889, 0b000_110_1111},
		{898, 0b000_111_1110},
		{988, 0b001_110_1110},
		{999, 0b001_111_1111},
	} {
		checkEncode(t, c.n, c.d, api.OK)
		checkDecode(t, c.d, c.n, api.OK)
		checkCanonical(t, c.d, true)
	}
}

// P13.1: every number, with its declet by the table, row by row, and read back.
func TestP13_1_EveryNumber(t *testing.T) {
	counts := make([]int, len(rows))
	for n := range 1000 {
		d := written(n)
		counts[rowOf(d)]++
		checkEncode(t, n, number(d), api.OK)
		checkDecode(t, number(d), n, api.OK)
		checkCanonical(t, number(d), true)
		if own, _ := declet.Encode(n); own < 0 || own > 1023 {
			t.Errorf("Encode(%d): %d", n, own)
		}
	}
	// Eight digits are small and two great.
	for i, want := range []int{512, 128, 128, 128, 32, 32, 32, 8} {
		if counts[i] != want {
			t.Errorf("row %d has %d numbers, not %d", i, counts[i], want)
		}
	}
}

// P13.1: every number by equations of bits, a second way that shares nothing with the rows.
func TestP13_1_Equations(t *testing.T) {
	for n := range 1000 {
		var a, b, c, d, e, f, g, h, i, j, k, m int
		for _, bit := range []struct {
			place *int
			digit int
			worth int
		}{
			{&a, n / 100, 3}, {&b, n / 100, 2}, {&c, n / 100, 1}, {&d, n / 100, 0},
			{&e, n / 10 % 10, 3}, {&f, n / 10 % 10, 2}, {&g, n / 10 % 10, 1}, {&h, n / 10 % 10, 0},
			{&i, n % 10, 3}, {&j, n % 10, 2}, {&k, n % 10, 1}, {&m, n % 10, 0},
		} {
			*bit.place = bit.digit >> bit.worth & 1
		}
		want := 0
		for _, bit := range []int{
			b | a&j | a&f&i,
			c | a&k | a&g&i,
			d,
			f&(1-a&i) | (1-a)&e&j | e&i,
			g | (1-a)&e&k | a&i,
			h,
			a | e | i,
			a | e&i | (1-e)&j,
			e | a&i | (1-a)&k,
			m,
		} {
			want = 2*want + bit
		}
		checkEncode(t, n, want, api.OK)
	}
}

// P13.1: all patterns of ten bits, with what they mean; a thousand are canonical.
func TestP13_1_EveryPattern(t *testing.T) {
	declets := map[string]bool{}
	for n := range 1000 {
		declets[written(n)] = true
	}
	canonical := 0
	for d := range 1024 {
		checkDecode(t, d, meant(tenBits(d)), api.OK)
		checkCanonical(t, d, declets[tenBits(d)])
		if declet.Canonical(d) {
			canonical++
		}
	}
	if len(declets) != 1000 || canonical != 1000 {
		t.Errorf("%d declets, %d canonical ones", len(declets), canonical)
	}
}

// P13.1: the 24 patterns that are the declet of no number: all three digits are great, and the two highest bits aren't 0.
func TestP13_1_NotCanonical(t *testing.T) {
	count := 0
	for high := 1; high <= 3; high++ {
		for _, c := range []struct{ n, d int }{
			{888, 0b000_110_1110},
			{889, 0b000_110_1111},
			{898, 0b000_111_1110},
			{899, 0b000_111_1111},
			{988, 0b001_110_1110},
			{989, 0b001_110_1111},
			{998, 0b001_111_1110},
			{999, 0b001_111_1111},
		} {
			checkDecode(t, high<<8|c.d, c.n, api.OK)
			checkCanonical(t, high<<8|c.d, false)
			checkCanonical(t, c.d, true)
			count++
		}
	}
	for d := range 1024 {
		if !declet.Canonical(d) {
			count--
		}
	}
	if count != 0 {
		t.Errorf("%d patterns more or fewer than 24 aren't canonical", count)
	}
}

// P13.1, R1, R5: numbers beyond the bounds.
func TestP13_1_Outside(t *testing.T) {
	checkEncode(t, 0, 0, api.OK)
	checkEncode(t, 999, 255, api.OK)
	for _, n := range outside(999) {
		checkEncode(t, n, 0, api.ErrRange)
	}
	// These are patterns of ten bits, but no numbers of three digits.
	for n := 1000; n < 1024; n++ {
		checkEncode(t, n, 0, api.ErrRange)
		checkDecode(t, n, meant(tenBits(n)), api.OK)
	}
	checkDecode(t, 0, 0, api.OK)
	checkDecode(t, 1023, 999, api.OK)
	for _, d := range outside(1023) {
		checkDecode(t, d, 0, api.ErrRange)
		checkCanonical(t, d, false)
	}
	for d := 1024; d < 5000; d++ {
		checkEncode(t, d, 0, api.ErrRange)
		checkEncode(t, -d, 0, api.ErrRange)
		checkDecode(t, d, 0, api.ErrRange)
		checkDecode(t, -d, 0, api.ErrRange)
		checkCanonical(t, d, false)
		checkCanonical(t, -d, false)
	}
	for d := 1; d < 1024; d++ {
		checkEncode(t, -d, 0, api.ErrRange)
		checkDecode(t, -d, 0, api.ErrRange)
		checkCanonical(t, -d, false)
	}
}
