package desc_test

import (
	"math"
	"math/big"
	"runtime/metrics"
	"slices"
	"sync"
	"testing"

	"caliper/api"
	"caliper/desc"
)

// exponents are those of powers that are answered, the edges and what lies between.
var exponents = []int{0, 1, 2, 3, 4, 7, 8, 15, 16, 19, 20, 27, 28, 63, 64, 100, 255, 256, 1000, 4095, 4096, 5461, 8191, 8192, 8193, 10922, 11999, 12000}

// below and beyond are exponents of which there is no power.
var (
	below  = []int{-1, -2, -12000, -1 << 32, math.MinInt, math.MinInt + 1}
	beyond = []int{12001, 12002, 16383, 16384, 16385, 1 << 32, 1<<32 + 1, math.MaxInt}
)

// toBig brings math/big in as the oracle.
func toBig(a []uint64) *big.Int {
	sum := new(big.Int)
	for _, word := range slices.Backward(a) {
		sum.Lsh(sum, 64)
		sum.Or(sum, new(big.Int).SetUint64(word))
	}
	return sum
}

// same says whether got is want, and has no noughts at its end.
func same(got []uint64, want *big.Int) bool {
	if len(got) > 0 && got[len(got)-1] == 0 {
		return false
	}
	return toBig(got).Cmp(want) == 0
}

// power is base to the power of n.
func power(base, n int) *big.Int {
	return new(big.Int).Exp(big.NewInt(int64(base)), big.NewInt(int64(n)), nil)
}

// powerBase is the base of the powers that go with a format.
func powerBase(format desc.Info) int {
	if format.Base == 2 {
		return 5
	}
	return 10
}

// P4.3: the powers of each format, from 0 to the greatest.
func TestPower(t *testing.T) {
	for _, format := range formats {
		p := desc.NewPowers(format.Number)
		for _, n := range exponents {
			if got, e := p.Power(n); e != api.OK || !same(got, power(powerBase(format), n)) {
				t.Errorf("%s, %d: %x, %v", format.Name, n, got, e)
			}
		}
	}
	for _, number := range []int{4, 8} {
		p, want := desc.NewPowers(number), big.NewInt(1)
		for n := range 600 {
			if got, e := p.Power(n); e != api.OK || !same(got, want) {
				t.Errorf("%d, %d: %x, %v", number, n, got, e)
			}
			want.Mul(want, big.NewInt(int64(powerBase(formats[number-1]))))
		}
	}
}

// P4.3, R5: an exponent below 0 is ErrArg, one above MostPower is ErrLong; either way there is no power.
func TestPowerErrors(t *testing.T) {
	for number := 1; number <= 12; number++ {
		p := desc.NewPowers(number)
		for range 2 {
			for _, n := range below {
				if got, e := p.Power(n); len(got) != 0 || e != api.ErrArg {
					t.Errorf("%d, %d: %x, %v", number, n, got, e)
				}
			}
			for _, n := range beyond {
				if got, e := p.Power(n); len(got) != 0 || e != api.ErrLong {
					t.Errorf("%d, %d: %x, %v", number, n, got, e)
				}
			}
			if got, e := p.Power(api.MostPower); e != api.OK || len(got) == 0 {
				t.Error(number, len(got), e)
			}
		}
	}
}

// P4.3: the Base, not the 5, to the power of the Precision, less 1.
func TestGreatest(t *testing.T) {
	for _, format := range formats {
		p := desc.NewPowers(format.Number)
		want := power(format.Base, format.Precision)
		want.Sub(want, big.NewInt(1))
		for range 2 {
			if got := p.Greatest(); !same(got, want) {
				t.Errorf("%s: %x", format.Name, got)
			}
		}
	}
	for number, want := range map[int][]uint64{
		api.Half:    {2047},
		api.Brain:   {255},
		api.Double:  {1<<53 - 1},
		api.Octo:    {math.MaxUint64, math.MaxUint64, math.MaxUint64, 1<<49 - 1},
		api.Plain32: {9999999},
		api.Dense64: {9999999999999999},
	} {
		if got := desc.NewPowers(number).Greatest(); !slices.Equal(got, want) {
			t.Errorf("%d: %x", number, got)
		}
	}
}

// P4.3: what is no format has no powers.
func TestNewPowersNone(t *testing.T) {
	for _, number := range none {
		if p := desc.NewPowers(number); p != nil {
			t.Error(number)
		}
	}
	for number := 1; number <= 12; number++ {
		if p := desc.NewPowers(number); p == nil {
			t.Error(number)
		}
	}
}

// R1: a nil Powers answers ErrArg where an Errno is answered, and zero for everything else; so does the zero Powers, which is no format's.
func TestNil(t *testing.T) {
	for i, p := range []*desc.Powers{nil, {}} {
		for _, n := range slices.Concat(below, beyond, exponents) {
			if got, e := p.Power(n); len(got) != 0 || e != api.ErrArg {
				t.Error(i, n, got, e)
			}
		}
		for _, asks := range [][]int{nil, {}, {0}, {1, 2, -1}, make([]int, 64), make([]int, 65)} {
			if got := p.Together(asks); len(got) != 0 {
				t.Error(i, got)
			}
		}
		if got := p.Greatest(); len(got) != 0 || p.Made() != 0 {
			t.Error(i, got, p.Made())
		}
	}
}

// P4.3: Made is 0 ahead of the first call of Power or Greatest, whatever else is called, and 1 from then on. A call that answers an error is a call.
func TestMade(t *testing.T) {
	calls := map[string]func(p *desc.Powers){
		"Power":          func(p *desc.Powers) { p.Power(3) },
		"Power of 0":     func(p *desc.Powers) { p.Power(0) },
		"greatest Power": func(p *desc.Powers) { p.Power(12000) },
		"Power below 0":  func(p *desc.Powers) { p.Power(-1) },
		"Power too long": func(p *desc.Powers) { p.Power(12001) },
		"Greatest":       func(p *desc.Powers) { p.Greatest() },
		"Together":       func(p *desc.Powers) { p.Together([]int{7}) },
		"Together of 64": func(p *desc.Powers) { p.Together(make([]int, 64)) },
	}
	for name, first := range calls {
		for number := 1; number <= 12; number++ {
			p := desc.NewPowers(number)
			p.Together(nil)
			p.Together([]int{})
			p.Together(make([]int, 65))
			if p.Made() != 0 || p.Made() != 0 {
				t.Errorf("%d, ahead of %s: %d", number, name, p.Made())
			}
			if first(p); p.Made() != 1 {
				t.Errorf("%d, behind %s: %d", number, name, p.Made())
			}
			for _, call := range calls {
				call(p)
				call(p)
			}
			if p.Made() != 1 {
				t.Errorf("%d, behind %s and all others: %d", number, name, p.Made())
			}
		}
	}
}

// P4.3, R2: two Powers have nothing in common, be they of one format or not.
func TestMadeApart(t *testing.T) {
	a, b, c := desc.NewPowers(7), desc.NewPowers(7), desc.NewPowers(1)
	a.Greatest()
	if a.Made() != 1 || b.Made() != 0 || c.Made() != 0 {
		t.Error(a.Made(), b.Made(), c.Made())
	}
	c.Power(2)
	if a.Made() != 1 || b.Made() != 0 || c.Made() != 1 {
		t.Error(a.Made(), b.Made(), c.Made())
	}
	if got := desc.NewPowers(7).Made(); got != 0 {
		t.Error(got)
	}
}

// P4.3: many goroutines that ask first at one time: the list is made once, and each has its right answer.
func TestMadeAtOnce(t *testing.T) {
	const askers = 32
	for round := range 300 {
		number := round%12 + 1
		format := formats[number-1]
		want := power(powerBase(format), 333)
		greatest := power(format.Base, format.Precision)
		greatest.Sub(greatest, big.NewInt(1))
		p := desc.NewPowers(number)
		begin := make(chan struct{})
		var askersDone sync.WaitGroup
		for i := range askers {
			askersDone.Go(func() {
				<-begin
				if i%2 == 0 {
					if got, e := p.Power(333); e != api.OK || !same(got, want) {
						t.Errorf("%d: %x, %v", number, got, e)
					}
				} else if got := p.Greatest(); !same(got, greatest) {
					t.Errorf("%d: %x", number, got)
				}
				if p.Made() != 1 {
					t.Errorf("%d: made %d times", number, p.Made())
				}
			})
		}
		close(begin)
		askersDone.Wait()
		if p.Made() != 1 {
			t.Fatalf("%d: made %d times", number, p.Made())
		}
	}
}

// P4.3: of up to 64 asks the Power of each, in their order.
func TestTogether(t *testing.T) {
	for many := range 65 {
		number := many%12 + 1
		asks := make([]int, many)
		for i := range asks {
			asks[i] = i * 37 % 65
		}
		got := desc.NewPowers(number).Together(asks)
		if len(got) != many {
			t.Fatal(many, len(got))
		}
		for i, n := range asks {
			if !same(got[i], power(powerBase(formats[number-1]), n)) {
				t.Errorf("%d, ask %d of %d: %x", number, i, many, got[i])
			}
		}
	}
}

// P4.3: of more than 64 asks nothing.
func TestTogetherTooMany(t *testing.T) {
	for _, many := range []int{65, 66, 128, 1000} {
		p := desc.NewPowers(9)
		if got := p.Together(make([]int, many)); len(got) != 0 || p.Made() != 0 {
			t.Error(many, len(got), p.Made())
		}
		if got := p.Together(make([]int, 64)); len(got) != 64 {
			t.Error(len(got))
		}
		if got := p.Together(make([]int, many)); len(got) != 0 || p.Made() != 1 {
			t.Error(many, len(got), p.Made())
		}
	}
}

// P4.3: nothing where an ask answers an error, and the others are as if it weren't there.
func TestTogetherErrors(t *testing.T) {
	for _, format := range formats {
		asks := slices.Concat([]int{5}, below, []int{0}, beyond, []int{12000, -1})
		got := desc.NewPowers(format.Number).Together(asks)
		if len(got) != len(asks) {
			t.Fatal(format.Name, len(got))
		}
		for i, n := range asks {
			if n < 0 || n > 12000 {
				if len(got[i]) != 0 {
					t.Errorf("%s, %d: %x", format.Name, n, got[i])
				}
			} else if !same(got[i], power(powerBase(format), n)) {
				t.Errorf("%s, %d: %x", format.Name, n, got[i])
			}
		}
	}
	p := desc.NewPowers(2)
	if got := p.Together([]int{-1, 12001}); len(got) != 2 || len(got[0]) != 0 || len(got[1]) != 0 || p.Made() != 1 {
		t.Error(got, p.Made())
	}
}

// spoil changes a list and its spare room.
func spoil(a []uint64) {
	room := a[:cap(a)]
	for i := range room {
		room[i] = ^room[i]
	}
}

// R3: whoever gets an answer may change it, and its spare room; what is asked for again is as it was.
func TestAnswersAreNew(t *testing.T) {
	for _, format := range formats {
		p := desc.NewPowers(format.Number)
		greatest := power(format.Base, format.Precision)
		greatest.Sub(greatest, big.NewInt(1))
		for range 2 {
			for _, n := range exponents {
				got, e := p.Power(n)
				again, _ := p.Power(n)
				spoil(got)
				if e != api.OK || !same(again, power(powerBase(format), n)) {
					t.Errorf("%s, %d: %x, %v", format.Name, n, again, e)
				}
			}
			first, second := p.Greatest(), p.Greatest()
			if spoil(first); !same(second, greatest) {
				t.Errorf("%s: %x", format.Name, second)
			}
		}
	}
}

// R3: no two lists of one answer share memory, not even of two asks that are the same.
func TestTogetherIsNew(t *testing.T) {
	p := desc.NewPowers(3)
	asks := []int{0, 0, 1, 1, 2, 64, 64, 12000, 12000}
	for range 2 {
		got := p.Together(asks)
		for i, n := range asks {
			if !same(got[i], power(5, n)) {
				t.Errorf("%d: %x", n, got[i])
			}
			spoil(got[i])
		}
		clear(got[:cap(got)])
	}
}

// R3: the asks stay as they are, their spare room too, and aren't kept.
func TestTogetherAsks(t *testing.T) {
	whole := []int{3, -1, 0, 12001, 2, 2}
	before := slices.Clone(whole)
	p := desc.NewPowers(12)
	got := p.Together(whole[:5])
	if !slices.Equal(whole, before) {
		t.Error(whole)
	}
	clear(whole)
	if len(got) != 5 || !slices.Equal(got[0], []uint64{1000}) || !slices.Equal(got[4], []uint64{100}) {
		t.Error(got)
	}
}

// created is how many goroutines were ever started.
func created(t *testing.T) uint64 {
	sample := []metrics.Sample{{Name: "/sched/goroutines-created:goroutines"}}
	metrics.Read(sample)
	if sample[0].Value.Kind() != metrics.KindUint64 {
		t.Skip("goroutines aren't counted here")
	}
	return sample[0].Value.Uint64()
}

// P4.3: each ask has a goroutine of its own.
func TestTogetherGoroutines(t *testing.T) {
	p := desc.NewPowers(8)
	for _, many := range []int{1, 2, 63, 64} {
		before := created(t)
		p.Together(make([]int, many))
		if after := created(t); after-before < uint64(many) {
			t.Errorf("%d asks: %d goroutines", many, after-before)
		}
	}
}
