package flags_test

import (
	"math"
	"testing"

	"caliper/api"
	"caliper/flags"
)

// The four flags, written out: the package must not be asked what they are.
var four = []int{api.Invalid, api.Overflow, api.Underflow, api.Inexact}

// sums are sums and those of the four flags that are in them.
var sums = []struct{ sum, known int }{
	{0, 0}, {1, 1}, {2, 2}, {4, 4}, {8, 8}, {3, 3}, {5, 5}, {9, 9}, {10, 10}, {14, 14}, {15, 15},
	{16, 0}, {17, 1}, {18, 2}, {31, 15}, {32, 0}, {256, 0}, {1<<32 + 4, 4}, {1 << 32, 0},
	{math.MaxInt, 15}, {math.MaxInt - 15, 0}, {math.MaxInt - 8, 7},
	{-1, 15}, {-2, 14}, {-8, 8}, {-9, 7}, {-15, 1}, {-16, 0}, {-17, 15}, {-32, 0},
	{math.MinInt, 0}, {math.MinInt + 6, 6},
}

// raised is a context with just these flags, raised one by one.
func raised(sum int) *flags.Context {
	c := new(flags.Context)
	for _, flag := range four {
		if sum/flag%2 == 1 {
			c.Raise(flag)
		}
	}
	return c
}

// P3.1: the chapter's example.
func TestExample(t *testing.T) {
	c := flags.New()
	c.Raise(9)
	c.Raise(2)
	if got := c.Flags(); got != 11 {
		t.Error(got)
	}
	if got := c.Clear(3); got != 3 {
		t.Error(got)
	}
	if got := c.Flags(); got != 8 {
		t.Error(got)
	}
	if was, e := c.Set(7); was != 0 || e != api.ErrArg {
		t.Error(was, e)
	}
}

// P3.1: a new context and the zero Context have no flags and the direction Even, and both take calls.
func TestNew(t *testing.T) {
	var zero flags.Context
	for i, c := range []*flags.Context{flags.New(), &zero, {}} {
		if c.Flags() != 0 || c.Test(15) || c.Test(-1) || c.Clear(15) != 0 || c.Direction() != api.Even {
			t.Error(i, c.Flags(), c.Direction())
		}
		c.Raise(api.Underflow)
		if c.Flags() != 4 {
			t.Error(i, c.Flags())
		}
		if was, e := c.Set(api.Up); was != api.Even || e != api.OK || c.Direction() != api.Up {
			t.Error(i, was, e, c.Direction())
		}
	}
}

// P3.1, R2: contexts have nothing in common.
func TestContextsAreApart(t *testing.T) {
	a, b := flags.New(), flags.New()
	a.Raise(15)
	a.Set(api.Down)
	if b.Flags() != 0 || b.Direction() != api.Even {
		t.Error(b.Flags(), b.Direction())
	}
	if b.Clear(15) != 0 || a.Flags() != 15 {
		t.Error(a.Flags())
	}
	if c := flags.New(); c.Flags() != 0 || c.Direction() != api.Even {
		t.Error(c.Flags(), c.Direction())
	}
}

// P3.1: each sum on each of the sixteen states: what is in it, what was raised, and no other bit.
func TestSums(t *testing.T) {
	for before := range 16 {
		for _, s := range sums {
			c := raised(before)
			if got := c.Flags(); got != before {
				t.Fatalf("Flags of %d: %d", before, got)
			}
			if got := c.Test(s.sum); got != (before&s.known != 0) || c.Flags() != before {
				t.Errorf("Test(%d) of %d: %t, then %d", s.sum, before, got, c.Flags())
			}
			c.Raise(s.sum)
			if got := c.Flags(); got != before|s.known {
				t.Errorf("Raise(%d) of %d: %d", s.sum, before, got)
			}
			c = raised(before)
			if got := c.Clear(s.sum); got != before&s.known || c.Flags() != before&^s.known {
				t.Errorf("Clear(%d) of %d: %d, then %d", s.sum, before, got, c.Flags())
			}
			if c.Direction() != api.Even {
				t.Errorf("%d on %d: the direction is %d", s.sum, before, c.Direction())
			}
		}
	}
}

// P3.1: twice raised is raised, and cleared once; what was cleared may be raised anew.
func TestTwice(t *testing.T) {
	c := flags.New()
	for _, flag := range four {
		if c.Clear(flag) != 0 || c.Flags() != 0 {
			t.Error(flag, "was not raised, but cleared")
		}
		for range 2 {
			c.Raise(flag)
			c.Raise(flag)
			if c.Flags() != flag || !c.Test(flag) || c.Test(15-flag) {
				t.Error(flag, c.Flags())
			}
			if got := c.Clear(flag); got != flag {
				t.Error(flag, got)
			}
			if got := c.Clear(flag); got != 0 || c.Test(flag) || c.Flags() != 0 {
				t.Error(flag, got, c.Flags())
			}
		}
	}
}

// P3.1 (P7 of DOC.md): a flag stays raised whatever else is asked, until it is cleared.
func TestFlagsStay(t *testing.T) {
	c := flags.New()
	c.Raise(api.Overflow)
	c.Raise(0)
	c.Raise(16)
	c.Raise(api.Inexact)
	c.Clear(api.Inexact)
	c.Clear(0)
	c.Clear(13)
	c.Clear(-16)
	c.Test(2)
	c.Set(api.Zero)
	c.Set(-1)
	c.Together([][]int{{4}, {}})
	c.Share(4, 2)
	c.Share(2, 0)
	c.Share(2, 65)
	if got := c.Flags(); got != 2 || !c.Test(2) || c.Clear(15) != 2 {
		t.Error(got)
	}
}

// P3.2: each direction from each: it is told which it was.
func TestSet(t *testing.T) {
	for from := api.Even; from <= api.Down; from++ {
		for to := api.Even; to <= api.Down; to++ {
			c := raised(6)
			if was, e := c.Set(from); was != api.Even || e != api.OK {
				t.Error(from, was, e)
			}
			if was, e := c.Set(to); was != from || e != api.OK || c.Direction() != to {
				t.Errorf("from %d to %d: %d, %v, then %d", from, to, was, e, c.Direction())
			}
			if c.Direction() != to || c.Flags() != 6 {
				t.Errorf("from %d to %d: %d, flags %d", from, to, c.Direction(), c.Flags())
			}
		}
	}
}

// P3.2, R5: a direction that is none is ErrArg, tells nothing and changes nothing.
func TestSetNone(t *testing.T) {
	for direction := api.Even; direction <= api.Down; direction++ {
		c := raised(9)
		c.Set(direction)
		for _, none := range []int{-1, 5, 6, 7, -2, 16, 256, -256, 1 << 16, 1 << 32, 1<<32 + 1, -1 << 32, math.MinInt, math.MinInt + 1, math.MaxInt} {
			if was, e := c.Set(none); was != 0 || e != api.ErrArg || c.Direction() != direction || c.Flags() != 9 {
				t.Errorf("Set(%d) in %d: %d, %v, then %d", none, direction, was, e, c.Direction())
			}
		}
	}
}

// R1: a nil context answers ErrArg where an Errno is answered, and zero for everything else.
func TestNil(t *testing.T) {
	var c *flags.Context
	for _, s := range sums {
		c.Raise(s.sum)
		if c.Flags() != 0 || c.Test(s.sum) || c.Clear(s.sum) != 0 || c.Direction() != 0 {
			t.Error(s.sum)
		}
	}
	for _, direction := range []int{-1, 0, 1, 2, 3, 4, 5} {
		if was, e := c.Set(direction); was != 0 || e != api.ErrArg {
			t.Error(direction, was, e)
		}
	}
	c.Together(nil)
	c.Together([][]int{{1, 2}, nil, {}})
	c.Together(make([][]int, 65))
	for _, many := range []int{-1, 0, 1, 64, 65} {
		if told := c.Share(15, many); len(told) != 0 {
			t.Error(many, told)
		}
	}
}
