package flags_test

import (
	"math"
	"runtime"
	"slices"
	"sync"
	"sync/atomic"
	"testing"
	"time"

	"caliper/api"
	"caliper/flags"
)

// rounds is how often a race is run, so that a step that is really two is sure to be caught.
const rounds = 2000

// P3.3: of each number of lists up to 64 every list's flags are raised; of more nothing happens.
func TestTogetherLists(t *testing.T) {
	for many := range 65 {
		for at := range many {
			lists := make([][]int, many)
			lists[at] = []int{api.Underflow}
			c := raised(1)
			if c.Together(lists); c.Flags() != 5 {
				t.Errorf("list %d of %d: %d", at, many, c.Flags())
			}
		}
	}
	for _, many := range []int{65, 66, 128, 1000} {
		lists := slices.Repeat([][]int{{15}}, many)
		c := raised(8)
		if c.Together(lists); c.Flags() != 8 {
			t.Errorf("%d lists: %d", many, c.Flags())
		}
	}
}

// P3.3, R4: no list, and lists of nothing, raise nothing.
func TestTogetherNothing(t *testing.T) {
	for _, lists := range [][][]int{nil, {}, {nil}, {{}}, {nil, {}, nil}, make([][]int, 64), {{0}, {16, -16}, {math.MinInt}}} {
		c := raised(2)
		c.Set(api.Up)
		if c.Together(lists); c.Flags() != 2 || c.Direction() != api.Up {
			t.Errorf("%v: %d", lists, c.Flags())
		}
	}
}

// P3.3: all of a list is raised, wherever it stands in it, and means what it means to Raise.
func TestTogetherWholeLists(t *testing.T) {
	for _, s := range sums {
		for _, lists := range [][][]int{{{s.sum}}, {{s.sum, 0, 0}}, {{0, s.sum, 0}, nil}, {{0}, {0, 0, s.sum}}, {{s.sum, s.sum}, {s.sum}}} {
			c := flags.New()
			if c.Together(lists); c.Flags() != s.known {
				t.Errorf("%v: %d, not %d", lists, c.Flags(), s.known)
			}
		}
	}
	c := flags.New()
	if c.Together([][]int{{1, 2}, {4}, nil, {8}}); c.Flags() != 15 {
		t.Error(c.Flags())
	}
}

// P3.3: when Together is over all is raised: none of the goroutines loses what another one raises, or comes late.
func TestTogetherIsOver(t *testing.T) {
	lists := make([][]int, 64)
	for i := range lists {
		lists[i] = []int{0, 0, four[i%4]}
	}
	c := flags.New()
	for range rounds {
		if c.Together([][]int{{1}, {2}, {4}, {8}}); c.Clear(15) != 15 {
			t.Fatal("a flag was lost")
		}
		if c.Together(lists); c.Clear(15) != 15 || c.Flags() != 0 {
			t.Fatal("a flag was lost, or raised late")
		}
	}
}

// settled is how many goroutines there are when those that are about to end have ended.
func settled() int {
	least := runtime.NumGoroutine()
	for range 20 {
		time.Sleep(time.Millisecond)
		least = min(least, runtime.NumGoroutine())
	}
	return least
}

// watched is the greatest number of goroutines that were there at one time, beside the watching one, while work ran.
func watched(work func()) int {
	done := make(chan struct{})
	seen := make(chan int)
	go func() {
		greatest := 0
		for {
			greatest = max(greatest, runtime.NumGoroutine()-1)
			select {
			case <-done:
				seen <- greatest
				return
			default:
				runtime.Gosched()
			}
		}
	}()
	work()
	close(done)
	return <-seen
}

// P3.3: each list has a goroutine of its own. Longer and longer lists, as short ones may be over before anyone looks.
func TestTogetherGoroutines(t *testing.T) {
	const many = 4
	c := flags.New()
	before := settled()
	for size := 1 << 14; size <= 1<<24; size *= 2 {
		lists := slices.Repeat([][]int{make([]int, size)}, many)
		if watched(func() { c.Together(lists) }) >= before+many {
			return
		}
	}
	t.Error("the lists have no goroutines of their own")
}

// R3: the lists stay as they are, their spare room too, and aren't kept.
func TestTogetherMemory(t *testing.T) {
	whole := []int{1, 16, -16, 4, 2, 2}
	rows := [][]int{whole[:4], nil, whole[1:3], {8}}
	before := slices.Clone(whole)
	c := flags.New()
	c.Together(rows[:3])
	if c.Flags() != 5 || !slices.Equal(whole, before) {
		t.Error(c.Flags(), whole)
	}
	if len(rows[0]) != 4 || rows[1] != nil || len(rows[2]) != 2 || len(rows[3]) != 1 || rows[3][0] != 8 {
		t.Error(rows)
	}
	for i := range whole {
		whole[i] = 15
	}
	if c.Flags() != 5 {
		t.Error("the lists were kept")
	}
}

// P3.3: one of the goroutines is told all that was raised, the others nothing; the answer doesn't tell who came first.
func TestShare(t *testing.T) {
	for before := range 16 {
		for _, s := range sums {
			for _, many := range []int{1, 2, 3, 63, 64} {
				c := raised(before)
				c.Set(api.Away)
				want := make([]int, many)
				want[0] = before & s.known
				if told := c.Share(s.sum, many); !slices.Equal(told, want) {
					t.Fatalf("Share(%d, %d) of %d: %v", s.sum, many, before, told)
				}
				if c.Flags() != before&^s.known || c.Direction() != api.Away {
					t.Fatalf("Share(%d, %d) of %d: then %d", s.sum, many, before, c.Flags())
				}
			}
		}
	}
}

// P3.3: of a many that is none nothing happens, and nothing is answered.
func TestShareNone(t *testing.T) {
	for _, many := range []int{0, -1, 65, -64, -65, 66, 128, 1 << 32, 1<<32 + 1, math.MinInt, math.MaxInt} {
		c := raised(15)
		if told := c.Share(15, many); len(told) != 0 || c.Flags() != 15 {
			t.Errorf("%d: %v, then %d", many, told, c.Flags())
		}
	}
}

// P3.3: each raising is told by one Clear at most, and none is lost.
func TestShareTellsOnce(t *testing.T) {
	c := flags.New()
	for range rounds {
		c.Raise(api.Invalid)
		c.Raise(api.Inexact)
		sum := 0
		for _, told := range c.Share(9, 64) {
			sum += told
		}
		if sum != 9 || c.Flags() != 0 {
			t.Fatal(sum, c.Flags())
		}
	}
}

// R3: an answer is new memory each time.
func TestShareMemory(t *testing.T) {
	c := raised(15)
	first := c.Share(1, 3)
	second := c.Share(2, 3)
	room := first[:cap(first)]
	for i := range room {
		room[i] = 7
	}
	if third := c.Share(4, 3); !slices.Equal(second, []int{2, 0, 0}) || !slices.Equal(third, []int{4, 0, 0}) || c.Flags() != 8 {
		t.Error(second, third, c.Flags())
	}
}

// P3.3: goroutines with a flag each see their own flag as if they were alone.
func TestOthersDoNoHarm(t *testing.T) {
	c := flags.New()
	var workers sync.WaitGroup
	for _, flag := range four {
		workers.Go(func() {
			for range 10 * rounds {
				c.Raise(flag)
				if !c.Test(flag) || c.Flags()&flag == 0 || c.Clear(flag) != flag || c.Test(flag) {
					t.Error(flag, "was changed by another goroutine")
					return
				}
			}
		})
	}
	workers.Wait()
	if c.Flags() != 0 {
		t.Error(c.Flags())
	}
}

// P3.3: what one raises is raised for all, and of those that clear all the time just one is told.
func TestRaiseAndClear(t *testing.T) {
	const clearers = 4
	c := flags.New()
	var over atomic.Bool
	var told [clearers]int
	var workers sync.WaitGroup
	for i := range clearers {
		workers.Go(func() {
			for !over.Load() {
				for range 100 {
					told[i] += c.Clear(api.Invalid)
				}
				runtime.Gosched()
			}
		})
	}
	for range 10 * rounds {
		c.Raise(api.Invalid)
		for c.Test(api.Invalid) {
			runtime.Gosched()
		}
	}
	over.Store(true)
	workers.Wait()
	sum := 0
	for _, n := range told {
		sum += n
	}
	if sum != 10*rounds || c.Flags() != 0 {
		t.Errorf("%d raisings, told %d times", 10*rounds, sum)
	}
}

// P3.3: goroutines that raise and clear one flag, nobody waiting for anybody: none is told more than was raised.
func TestRaiseAndClearAtOnce(t *testing.T) {
	const pairs = 4
	c := flags.New()
	var told [pairs]int
	var workers sync.WaitGroup
	for i := range pairs {
		workers.Go(func() {
			for range rounds {
				c.Raise(2 + 8)
			}
		})
		workers.Go(func() {
			for range rounds {
				told[i] += c.Clear(2) / 2
			}
		})
	}
	workers.Wait()
	sum := c.Clear(2) / 2
	for _, n := range told {
		sum += n
	}
	if sum < 1 || sum > pairs*rounds || c.Flags() != 8 {
		t.Errorf("%d raisings, told %d times; then %d", pairs*rounds, sum, c.Flags())
	}
}

// P3.3: Together and Share, by several goroutines on one context: no raising is told twice.
func TestTogetherBesideShare(t *testing.T) {
	c := flags.New()
	const callers = 4
	told := make([]int, callers)
	var workers sync.WaitGroup
	for i := range callers {
		workers.Go(func() {
			for range rounds / 4 {
				c.Together([][]int{{2}})
				for _, sum := range c.Share(2, 3) {
					told[i] += sum / 2
				}
			}
		})
	}
	workers.Wait()
	sum := c.Flags() / 2
	for _, n := range told {
		sum += n
	}
	if sum < 1 || sum > callers*(rounds/4) {
		t.Errorf("%d raisings, told %d times", callers*(rounds/4), sum)
	}
}

// P3.3: of many that set the direction at once each is told a direction that was set, and each setting is told once.
func TestSetAtOnce(t *testing.T) {
	const callers = 8
	c := flags.New()
	var lock sync.Mutex
	balance := [5]int{api.Even: 1}
	begin := make(chan struct{})
	var workers sync.WaitGroup
	for i := range callers {
		workers.Go(func() {
			var own [5]int
			<-begin
			for k := range 10 * rounds {
				direction := (i + k) % 5
				was, _ := c.Set(direction)
				own[direction]++
				own[was]--
			}
			lock.Lock()
			defer lock.Unlock()
			for direction, n := range own {
				balance[direction] += n
			}
		})
	}
	close(begin)
	workers.Wait()
	balance[c.Direction()]--
	if balance != [5]int{} {
		t.Error(balance)
	}
}
