package order_test

import (
	"testing"

	"caliper/api"
	"caliper/order"
)

// sample is a pattern, its format and what it means.
type sample struct {
	f format
	b api.Bits
	m meaning
}

// sampled are the samples of patterns.
func (f format) sampled(list []api.Bits) []sample {
	var samples []sample
	for _, b := range list {
		samples = append(samples, sample{f, b, f.of(b)})
	}
	return samples
}

// compares fails unless Compare answers this.
func compares(t *testing.T, number int, a, b api.Bits, want int, wantOk bool) {
	t.Helper()
	if got, ok, errno := order.Compare(number, a, b); got != want || ok != wantOk || errno != api.OK {
		t.Errorf("Compare(%d, %x, %x): %d %t %d, not %d %t", number, a, b, got, ok, errno, want, wantOk)
	}
}

// totals fails unless Total answers this.
func totals(t *testing.T, number int, a, b api.Bits, want int) {
	t.Helper()
	if got, errno := order.Total(number, a, b); got != want || errno != api.OK {
		t.Errorf("Total(%d, %x, %x): %d %d, not %d", number, a, b, got, errno, want)
	}
}

// mixes fails unless Mixed answers this.
func mixes(t *testing.T, f int, a api.Bits, g int, b api.Bits, want int, wantOk bool) {
	t.Helper()
	if got, ok, errno := order.Mixed(f, a, g, b); got != want || ok != wantOk || errno != api.OK {
		t.Errorf("Mixed(%d, %x, %d, %x): %d %t %d, not %d %t", f, a, g, b, got, ok, errno, want, wantOk)
	}
}

// steps fails unless Next answers this.
func steps(t *testing.T, number int, b api.Bits, up bool, want api.Bits, wantFlags int) {
	t.Helper()
	if got, flags, errno := order.Next(number, b, up); got != want || flags != wantFlags || errno != api.OK {
		t.Errorf("Next(%d, %x, %t): %x %d %d, not %x %d", number, b, up, got, flags, errno, want, wantFlags)
	}
}

// lie fails unless two samples, of any two formats, lie as the oracle has it, turned round too.
func lie(t *testing.T, x, y sample) {
	t.Helper()
	value, ok := byValue(x.m, y.m)
	mixes(t, x.f.number, x.b, y.f.number, y.b, value, ok)
	mixes(t, y.f.number, y.b, x.f.number, x.b, -value, ok)
}

// apart is lie of two samples of one format, by all the calls that compare.
func apart(t *testing.T, x, y sample) {
	t.Helper()
	lie(t, x, y)
	value, ok := byValue(x.m, y.m)
	compares(t, x.f.number, x.b, y.b, value, ok)
	compares(t, x.f.number, y.b, x.b, -value, ok)
	total := byData(x.m, y.m)
	totals(t, x.f.number, x.b, y.b, total)
	totals(t, x.f.number, y.b, x.b, -total)
}

// noneCompared fails unless Compare and Total answer ErrArg and nothing else, with the two patterns either way round.
func noneCompared(t *testing.T, number int, a, b api.Bits) {
	t.Helper()
	for range 2 {
		if got, ok, errno := order.Compare(number, a, b); got != 0 || ok || errno != api.ErrArg {
			t.Errorf("Compare(%d, %x, %x): %d %t %d, not ErrArg", number, a, b, got, ok, errno)
		}
		if got, errno := order.Total(number, a, b); got != 0 || errno != api.ErrArg {
			t.Errorf("Total(%d, %x, %x): %d %d, not ErrArg", number, a, b, got, errno)
		}
		a, b = b, a
	}
}

// noneMixed fails unless Mixed answers ErrArg and nothing else, either way round.
func noneMixed(t *testing.T, f int, a api.Bits, g int, b api.Bits) {
	t.Helper()
	for range 2 {
		if got, ok, errno := order.Mixed(f, a, g, b); got != 0 || ok || errno != api.ErrArg {
			t.Errorf("Mixed(%d, %x, %d, %x): %d %t %d, not ErrArg", f, a, g, b, got, ok, errno)
		}
		f, a, g, b = g, b, f, a
	}
}

// noneNext fails unless Next answers that error and nothing else, both ways.
func noneNext(t *testing.T, number int, b api.Bits, want api.Errno) {
	t.Helper()
	for _, up := range signs {
		if got, flags, errno := order.Next(number, b, up); got != nothing || flags != 0 || errno != want {
			t.Errorf("Next(%d, %x, %t): %x %d %d, not %d", number, b, up, got, flags, errno, want)
		}
	}
}
