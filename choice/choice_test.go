package choice_test

import (
	"math"
	"slices"
	"testing"

	"caliper/api"
	"caliper/choice"
)

func TestKnown(t *testing.T) {
	for _, direction := range []int{0, 1, 2, 3, 4} {
		if !choice.Known(direction) {
			t.Error(direction)
		}
	}
	for _, direction := range []int{-1, 5, 6, 8, 1 << 32, 1<<32 + 1, math.MinInt, math.MaxInt} {
		if choice.Known(direction) {
			t.Error(direction)
		}
	}
}

func TestInfinite(t *testing.T) {
	for _, c := range []struct {
		direction   int
		plus, minus bool
	}{
		{direction: api.Even, plus: true, minus: true},
		{direction: api.Away, plus: true, minus: true},
		{direction: api.Zero, plus: false, minus: false},
		{direction: api.Up, plus: true, minus: false},
		{direction: api.Down, plus: false, minus: true},
	} {
		if choice.Infinite(c.direction, false) != c.plus || choice.Infinite(c.direction, true) != c.minus {
			t.Error(c)
		}
	}
}

// Each row is a place between two neighbours, and which directions take the farther one there.
func TestFarther(t *testing.T) {
	for _, c := range []struct {
		rest, whole                []uint64
		sign, odd                  bool
		even, away, zero, up, down bool
	}{
		{rest: nil, whole: []uint64{5}, odd: true},
		{rest: []uint64{0, 0}, whole: []uint64{5}, sign: true, odd: true},
		{rest: []uint64{2}, whole: []uint64{5}, odd: true, up: true},
		{rest: []uint64{2}, whole: []uint64{5}, sign: true, down: true},
		{rest: []uint64{3}, whole: []uint64{5}, even: true, away: true, up: true},
		{rest: []uint64{3}, whole: []uint64{5}, sign: true, odd: true, even: true, away: true, down: true},
		{rest: []uint64{3}, whole: []uint64{6}, away: true, up: true},
		{rest: []uint64{3}, whole: []uint64{6}, sign: true, away: true, down: true},
		{rest: []uint64{3}, whole: []uint64{6}, odd: true, even: true, away: true, up: true},
		{rest: []uint64{3}, whole: []uint64{6}, sign: true, odd: true, even: true, away: true, down: true},
		{rest: []uint64{1 << 63}, whole: []uint64{0, 1}, odd: true, even: true, away: true, up: true},
		{rest: []uint64{1<<63 - 1}, whole: []uint64{0, 1}, odd: true, up: true},
		{rest: []uint64{1<<63 + 1}, whole: []uint64{0, 1}, even: true, away: true, up: true},
	} {
		want := []bool{c.even, c.away, c.zero, c.up, c.down}
		var got []bool
		for direction := api.Even; direction <= api.Down; direction++ {
			got = append(got, choice.Farther(direction, c.sign, c.odd, c.rest, c.whole))
		}
		if !slices.Equal(got, want) {
			t.Error(c, got)
		}
	}
}
