package native_test

import (
	"fmt"
	"math"
	"strconv"
	"testing"

	"caliper/api"
	"caliper/binconv"
	"caliper/crossin"
	"caliper/dectext"
	"caliper/fixed"
	"caliper/grammar"
	"caliper/native"
	"caliper/order"
	"caliper/readbin"
	"caliper/shortest"
)

// widened is a pattern of Single as one of Double, by layer 12.
func widened(t *testing.T, b api.Bits) api.Bits {
	t.Helper()
	wide, flags, errno := binconv.Convert(api.Single, api.Double, api.Even, b)
	if flags != 0 || errno != api.OK {
		t.Fatalf("Convert(3, 4, 0, %x): %d %d", b, flags, errno)
	}
	return wide
}

// P21.1, P6: a float's pattern has the text that the language has for the float, and is read from it.
func TestP21_1_Texts(t *testing.T) {
	for seed := range uint64(3_000) {
		f, g := math.Float64frombits(scattered(seed+1<<44)), math.Float32frombits(uint32(scattered(seed+1<<45)))
		for _, c := range []struct {
			number, bits int
			f            float64
			b            api.Bits
		}{
			{api.Double, 64, f, native.FromFloat64(f)},
			{api.Single, 32, float64(g), native.FromFloat32(g)},
		} {
			if math.IsNaN(c.f) || math.IsInf(c.f, 0) {
				continue
			}
			text := strconv.FormatFloat(c.f, 'e', -1, c.bits)
			if b, _, errno := readbin.Read(c.number, api.Even, text); b != c.b || errno != api.OK {
				t.Errorf("Read(%d, %s): %x %d, not %x", c.number, text, b, errno, c.b)
			}
			own, errno := shortest.Write(c.number, c.b)
			if back, err := strconv.ParseFloat(own, c.bits); back != c.f || err != nil || errno != api.OK {
				t.Errorf("Write(%d, %x): %s, which is %v, not %v", c.number, c.b, own, back, c.f)
			}
		}
	}
}

// P21.2: Narrow is what all digits of a float are read as.
func TestP21_2_NarrowDigits(t *testing.T) {
	t.Parallel()
	for seed := range uint64(5_000) {
		b := scattered(seed + 1<<46)
		f := math.Float64frombits((1023-155+b>>53%290)<<52 | b&(1<<63|1<<52-1))
		digits, exp, errno := fixed.Exact(api.Double, native.FromFloat64(f))
		if errno != api.OK {
			t.Fatalf("Exact(%v): %d", f, errno)
		}
		parts := grammar.Parts{Class: api.Finite, Sign: f < 0, Digits: digits, Exp: exp}
		want, flags, errno := readbin.Make(api.Single, api.Even, parts)
		if errno != api.OK {
			t.Fatalf("Make(%v): %d", parts, errno)
		}
		narrows(t, math.Float64bits(f), uint32(want[0]), flags)
	}
}

// P21.2: Narrow doesn't turn the order of floats round, and lies on the side of what it was made of that its flags say.
func TestP21_2_NarrowOrder(t *testing.T) {
	for seed := range uint64(20_000) {
		b := scattered(seed + 1<<47)
		f := math.Float64frombits((1023-151+b>>53%281)<<52 | b&(1<<63|1<<52-1))
		narrow, flags := native.Narrow(f)
		side, ok, errno := order.Mixed(api.Single, native.FromFloat32(narrow), api.Double, native.FromFloat64(f))
		if side == 0 != (flags == 0) || !ok || errno != api.OK {
			t.Errorf("Narrow(%v): %v %d, which lies at %d", f, narrow, flags, side)
		}
		if next, _ := native.Narrow(math.Nextafter(f, math.Inf(1))); next < narrow {
			t.Errorf("Narrow(%v): %v, above %v", f, narrow, next)
		}
	}
}

// sample is so many whole numbers of every kind.
func sample(every int) []int64 {
	var list []int64
	for _, f := range formats {
		for i, n := range f.wholes() {
			if i%every == 0 {
				list = append(list, n)
			}
		}
	}
	return append(list, 0, 1, -1, math.MinInt64, math.MaxInt64)
}

// P21.2: FromInt is what layer 8 reads the number's text as.
func TestP21_2_IntTexts(t *testing.T) {
	for _, f := range formats {
		t.Run(fmt.Sprint(f.number), func(t *testing.T) {
			t.Parallel()
			for _, n := range sample(3) {
				for _, direction := range directions {
					want, flags, errno := readbin.Read(f.number, direction, strconv.FormatInt(n, 10))
					if errno != api.OK {
						t.Fatalf("Read(%d, %d, %d): %d", f.number, direction, n, errno)
					}
					comes(t, f.number, direction, n, want, flags)
				}
			}
		})
	}
}

// P21.2: FromInt is what Octo and a decimal format of 34 digits, which have every int64, are converted to.
func TestP21_2_IntBetween(t *testing.T) {
	for _, f := range formats {
		t.Run(fmt.Sprint(f.number), func(t *testing.T) {
			t.Parallel()
			for _, n := range sample(3) {
				octo, octos, errno := native.FromInt(api.Octo, api.Down, n)
				plain, plains, other := dectext.Read(api.Plain128, api.Down, strconv.FormatInt(n, 10))
				if octos != 0 || plains != 0 || errno != api.OK || other != api.OK {
					t.Fatalf("%d: %d %d, %d %d", n, octos, errno, plains, other)
				}
				for _, direction := range directions {
					want, flags, _ := binconv.Convert(api.Octo, f.number, direction, octo)
					comes(t, f.number, direction, n, want, flags)
					want, flags, _ = crossin.Convert(api.Plain128, f.number, direction, plain)
					comes(t, f.number, direction, n, want, flags)
				}
			}
		})
	}
}

// P21.2: without the sign Up is Down, and all else is the same.
func TestP21_2_IntSigns(t *testing.T) {
	mirrored := []int{api.Even, api.Away, api.Zero, api.Down, api.Up}
	for _, f := range formats {
		for _, n := range sample(3) {
			if n <= 0 {
				continue
			}
			for _, direction := range directions {
				b, flags, _ := native.FromInt(f.number, direction, n)
				b[(f.width-1)/64] |= 1 << ((f.width - 1) % 64)
				comes(t, f.number, mirrored[direction], -n, b, flags)
			}
		}
	}
}

// P21.2: a whole number narrows from Double as it does by itself, unless it is rounded twice: where Double has it.
func TestP21_2_IntNarrow(t *testing.T) {
	for _, n := range sample(1) {
		double, flags, _ := native.FromInt(api.Double, api.Even, n)
		if flags != 0 {
			continue
		}
		single, flags, _ := native.FromInt(api.Single, api.Even, n)
		narrows(t, double[0], uint32(single[0]), flags)
	}
}
