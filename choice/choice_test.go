package choice_test

import (
	"math"
	"slices"
	"testing"

	"caliper/api"
	"caliper/choice"
	"caliper/nat"
)

func TestKnown(t *testing.T) {
	for _, direction := range []int{0, 1, 2, 3, 4} {
		if !choice.Known(direction) {
			t.Error(direction)
		}
	}
	for _, direction := range []int{-1, 5, 6, 8, 1 << 32, 1<<32 + 1, math.MinInt, math.MaxInt} {
		if choice.Known(direction) {
			t.Error(direction)
		}
	}
}

func TestInfinite(t *testing.T) {
	for _, c := range []struct {
		direction   int
		plus, minus bool
	}{
		{direction: api.Even, plus: true, minus: true},
		{direction: api.Away, plus: true, minus: true},
		{direction: api.Zero, plus: false, minus: false},
		{direction: api.Up, plus: true, minus: false},
		{direction: api.Down, plus: false, minus: true},
	} {
		if choice.Infinite(c.direction, false) != c.plus || choice.Infinite(c.direction, true) != c.minus {
			t.Error(c)
		}
	}
}

// Each row is a place between two neighbours, and which directions take the farther one there.
func TestFarther(t *testing.T) {
	for _, c := range []struct {
		rest, whole                []uint64
		sign, odd                  bool
		even, away, zero, up, down bool
	}{
		{rest: nil, whole: []uint64{5}, odd: true},
		{rest: []uint64{0, 0}, whole: []uint64{5}, sign: true, odd: true},
		{rest: []uint64{2}, whole: []uint64{5}, odd: true, up: true},
		{rest: []uint64{2}, whole: []uint64{5}, sign: true, down: true},
		{rest: []uint64{3}, whole: []uint64{5}, even: true, away: true, up: true},
		{rest: []uint64{3}, whole: []uint64{5}, sign: true, odd: true, even: true, away: true, down: true},
		{rest: []uint64{3}, whole: []uint64{6}, away: true, up: true},
		{rest: []uint64{3}, whole: []uint64{6}, sign: true, away: true, down: true},
		{rest: []uint64{3}, whole: []uint64{6}, odd: true, even: true, away: true, up: true},
		{rest: []uint64{3}, whole: []uint64{6}, sign: true, odd: true, even: true, away: true, down: true},
		{rest: []uint64{1 << 63}, whole: []uint64{0, 1}, odd: true, even: true, away: true, up: true},
		{rest: []uint64{1<<63 - 1}, whole: []uint64{0, 1}, odd: true, up: true},
		{rest: []uint64{1<<63 + 1}, whole: []uint64{0, 1}, even: true, away: true, up: true},
	} {
		want := []bool{c.even, c.away, c.zero, c.up, c.down}
		var got []bool
		for direction := api.Even; direction <= api.Down; direction++ {
			got = append(got, choice.Farther(direction, c.sign, c.odd, c.rest, c.whole))
		}
		if !slices.Equal(got, want) {
			t.Error(c, got)
		}
	}
}

// Each row is a fraction, and the whole number that it is rounded to in each direction, as it is and with the sign.
func TestWhole(t *testing.T) {
	for _, c := range []struct {
		num, den    []uint64
		plus, minus [5]uint64
		exact       bool
	}{
		{nil, []uint64{3}, [5]uint64{0, 0, 0, 0, 0}, [5]uint64{0, 0, 0, 0, 0}, true},
		{[]uint64{6}, []uint64{3}, [5]uint64{2, 2, 2, 2, 2}, [5]uint64{2, 2, 2, 2, 2}, true},
		{[]uint64{1}, []uint64{3}, [5]uint64{0, 0, 0, 1, 0}, [5]uint64{0, 0, 0, 0, 1}, false},
		{[]uint64{1}, []uint64{2}, [5]uint64{0, 1, 0, 1, 0}, [5]uint64{0, 1, 0, 0, 1}, false},
		{[]uint64{2, 0}, []uint64{3, 0}, [5]uint64{1, 1, 0, 1, 0}, [5]uint64{1, 1, 0, 0, 1}, false},
		{[]uint64{3}, []uint64{2}, [5]uint64{2, 2, 1, 2, 1}, [5]uint64{2, 2, 1, 1, 2}, false},
		{[]uint64{5}, []uint64{2}, [5]uint64{2, 3, 2, 3, 2}, [5]uint64{2, 3, 2, 2, 3}, false},
		{[]uint64{1, 5}, []uint64{0, 2}, [5]uint64{3, 3, 2, 3, 2}, [5]uint64{3, 3, 2, 2, 3}, false},
	} {
		for direction := api.Even; direction <= api.Down; direction++ {
			plus, exact := choice.Whole(direction, false, c.num, c.den)
			minus, also := choice.Whole(direction, true, c.num, c.den)
			if !same(plus, c.plus[direction]) || !same(minus, c.minus[direction]) || exact != c.exact || also != c.exact {
				t.Error(c, direction, plus, minus, exact, also)
			}
		}
	}
}

// same says whether a natural is a word.
func same(natural []uint64, word uint64) bool { return nat.Cmp(natural, []uint64{word}) == 0 }

// A whole number may have one word more than what it was rounded from.
func TestWholeCarries(t *testing.T) {
	num := []uint64{math.MaxUint64, 1}
	if whole, exact := choice.Whole(api.Even, false, num, []uint64{2}); !slices.Equal(whole, []uint64{0, 1}) || exact {
		t.Error(whole, exact)
	}
}

func TestFlags(t *testing.T) {
	for _, c := range []struct {
		exact, small bool
		flags        int
	}{
		{true, false, 0},
		{true, true, 0},
		{false, false, api.Inexact},
		{false, true, api.Underflow + api.Inexact},
	} {
		if flags := choice.Flags(c.exact, c.small); flags != c.flags {
			t.Error(c, flags)
		}
	}
}
