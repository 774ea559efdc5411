package order_test

import (
	"cmp"
	"math"
	"math/big"
	"testing"

	"caliper/api"
	"caliper/binary"
	"caliper/binconv"
	"caliper/crossin"
	"caliper/crossout"
	"caliper/decimal"
	"caliper/order"
	"caliper/transcode"
)

// P5: a dense pattern lies to others as its plain twin does, and to that it is alike.
func TestP20_1_Twins(t *testing.T) {
	each(t, decimals, func(t *testing.T, f format) {
		list := f.edges()
		for _, pair := range f.strange() {
			list = append(list, pair[1])
		}
		twins := make([]api.Bits, len(list))
		for i, b := range list {
			code, errno := transcode.Code(f.number, b)
			if errno != api.OK {
				t.Fatalf("Code(%d, %x): %d", f.number, b, errno)
			}
			twins[i] = code
		}
		for i, a := range list {
			_, ok, _ := order.Compare(f.number, a, a)
			mixes(t, f.number, a, f.twin, twins[i], 0, ok)
			for j := i % 7; j < len(list); j += 7 {
				value, ok, _ := order.Compare(f.number, a, list[j])
				compares(t, f.twin, twins[i], twins[j], value, ok)
				mixes(t, f.number, a, f.twin, twins[j], value, ok)
				total, _ := order.Total(f.number, a, list[j])
				totals(t, f.twin, twins[i], twins[j], total)
			}
		}
	})
}

// convert is the conversion from any format into one of the other base, or from a binary one into a binary one.
func convert(from, to, direction int, b api.Bits) (api.Bits, int, api.Errno) {
	switch {
	case to >= api.Plain32:
		return crossout.Convert(from, to, direction, b)
	case from >= api.Plain32:
		return crossin.Convert(from, to, direction, b)
	}
	return binconv.Convert(from, to, direction, b)
}

// P20.1: what a number is rounded to, towards the infinities and towards 0, lies on that side of it, and with it only if nothing is raised.
func TestP20_1_Rounded(t *testing.T) {
	each(t, formats, func(t *testing.T, f format) {
		for _, g := range formats {
			if f.base == 10 && g.base == 10 {
				continue
			}
			for i, x := range f.positive(3, 40) {
				if i%2 == 1 {
					x.b = f.negated(x.b)
				}
				for _, direction := range []int{api.Up, api.Down, api.Zero} {
					side := map[int]int{api.Up: 1, api.Down: -1, api.Zero: -1}[direction]
					if direction == api.Zero && i%2 == 1 {
						side = 1
					}
					b, flags, errno := convert(f.number, g.number, direction, x.b)
					if errno != api.OK {
						t.Fatalf("Convert(%d, %d, %d, %x): %d", f.number, g.number, direction, x.b, errno)
					}
					if flags == 0 {
						side = 0
					}
					mixes(t, g.number, b, f.number, x.b, side, true)
				}
			}
		}
	})
}

// P20.2: between a number and the next one nothing lies: what lies just in the middle of two, of a wider format, is rounded to the one or the other, and compares so.
func TestP20_2_Between(t *testing.T) {
	each(t, binaries[:5], func(t *testing.T, f format) {
		wide := numbered(api.Octo)
		for i, x := range f.positive(1, 300) {
			if toBig(x.b).Cmp(plus(f.top(), -1)) == 0 {
				continue
			}
			coef, exp := f.reading(toBig(x.b))
			twice := plus(new(big.Int).Lsh(coef, 1), 1)
			middle := toBits(wide.below(times(twice, two(max(exp-1, 0))), two(max(1-exp, 0))))
			low, up, down := x.b, api.Up, api.Down
			if i%2 == 1 {
				low, middle, up, down = f.negated(low), wide.negated(middle), api.Down, api.Up
			}
			high, _, _ := order.Next(f.number, low, i%2 == 0)
			side := 1 - i%2*2
			mixes(t, f.number, low, wide.number, middle, -side, true)
			mixes(t, f.number, high, wide.number, middle, side, true)
			for direction, want := range map[int]api.Bits{up: high, down: low} {
				if got, _, _ := binconv.Convert(wide.number, f.number, direction, middle); got != want {
					t.Errorf("%d: between %x and %x lies %x", f.number, low, high, got)
				}
			}
		}
	})
}

// P20.2: of NaNs Next is layer 5's Quiet, and of the greatest number's neighbours one is an infinity.
func TestP20_2_Layer5(t *testing.T) {
	each(t, binaries, func(t *testing.T, f format) {
		for _, b := range f.nans() {
			d, _ := binary.Unpack(f.number, b)
			quiet, _ := binary.Quiet(f.number, b)
			flags := 0
			if d.Signal {
				flags = invalid
			}
			steps(t, f.number, b, true, quiet, flags)
			steps(t, f.number, b, false, quiet, flags)
		}
		for _, sign := range signs {
			greatest, _ := binary.Largest(f.number, sign)
			infinity, _ := binary.Pack(f.number, api.Datum{Class: api.Infinite, Sign: sign})
			steps(t, f.number, greatest, !sign, infinity, 0)
			steps(t, f.number, infinity, !sign, infinity, 0)
			steps(t, f.number, infinity, sign, greatest, 0)
		}
	})
}

// P20.1: Total says 0 only where layer 14 says the same of both patterns.
func TestP20_1_Layer14(t *testing.T) {
	each(t, decimals, func(t *testing.T, f format) {
		var list []api.Bits
		for i, pair := range f.strange() {
			if i%5 == 0 {
				list = append(list, pair[0], pair[1])
			}
		}
		for _, a := range list {
			own, _, _ := decimal.Unpack(f.number, a)
			for _, b := range list {
				other, _, _ := decimal.Unpack(f.number, b)
				if total, errno := order.Total(f.number, a, b); errno != api.OK || total == 0 != (own == other) {
					t.Errorf("Total(%d, %x, %x): %d %d", f.number, a, b, total, errno)
				}
			}
		}
	})
}

// floats compares two of the language's own numbers, which lie to one another or, with a NaN among them, don't.
func floats(a, b float64) (int, bool) {
	if math.IsNaN(a) || math.IsNaN(b) {
		return 0, false
	}
	return cmp.Compare(a, b), true
}

// P6: Single and Double lie to one another as the language's own numbers do, and their neighbours are the same.
func TestP20_Native(t *testing.T) {
	t.Parallel()
	single, double := numbered(api.Single), numbered(api.Double)
	x, y := single.edges(), double.edges()
	for seed := range uint64(200) {
		x, y = append(x, single.drawn(seed+1<<28)), append(y, double.drawn(seed+1<<29))
	}
	for i, a := range x {
		own := float64(math.Float32frombits(uint32(a[0])))
		for j := i % 5; j < len(x); j += 5 {
			want, ok := floats(own, float64(math.Float32frombits(uint32(x[j][0]))))
			compares(t, api.Single, a, x[j], want, ok)
		}
		for j := i % 5; j < len(y); j += 5 {
			want, ok := floats(own, math.Float64frombits(y[j][0]))
			mixes(t, api.Single, a, api.Double, y[j], want, ok)
		}
	}
	for i, a := range y {
		for j := i % 5; j < len(y); j += 5 {
			want, ok := floats(math.Float64frombits(a[0]), math.Float64frombits(y[j][0]))
			compares(t, api.Double, a, y[j], want, ok)
		}
	}
	for _, up := range signs {
		bound := math.Inf(-1)
		if up {
			bound = math.Inf(1)
		}
		for _, b := range x {
			if own := math.Float32frombits(uint32(b[0])); own == own {
				steps(t, api.Single, b, up, api.Bits{uint64(math.Float32bits(math.Nextafter32(own, float32(bound))))}, 0)
			}
		}
		for _, b := range y {
			if own := math.Float64frombits(b[0]); own == own {
				steps(t, api.Double, b, up, api.Bits{math.Float64bits(math.Nextafter(own, bound))}, 0)
			}
		}
	}
}
