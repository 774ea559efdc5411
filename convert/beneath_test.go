package convert_test

import (
	"math"
	"math/big"
	"strings"
	"testing"

	"caliper/api"
	"caliper/binary"
	"caliper/binconv"
	"caliper/convert"
	"caliper/crossin"
	"caliper/crossout"
	"caliper/decimal"
	"caliper/decround"
	"caliper/dectext"
	"caliper/fixed"
	"caliper/native"
	"caliper/readbin"
)

// beneath is what the layers ahead have of a pattern that is converted.
func beneath(t *testing.T, f, g format, direction int, b api.Bits) (api.Bits, int) {
	t.Helper()
	ahead := crossin.Convert
	switch {
	case f.base == 10 && g.base == 10:
		return kept(t, f, g, direction, b)
	case g.base == 10:
		ahead = crossout.Convert
	case f.base == 2:
		ahead = binconv.Convert
	}
	want, flags, errno := ahead(f.number, g.number, direction, b)
	if errno != api.OK {
		t.Fatalf("beneath: %d to %d, %x: %d", f.number, g.number, b, errno)
	}
	return want, flags
}

// kept is beneath of decimal formats both: layer 15's Keep, what is infinite, and NaNs, packed by layer 14.
func kept(t *testing.T, f, g format, direction int, b api.Bits) (api.Bits, int) {
	t.Helper()
	d, _, errno := decimal.Unpack(f.number, b)
	flags := 0
	switch {
	case d.Class == api.Finite:
		d, flags, errno = decround.Keep(g.number, direction, d.Sign, d.Coef[:], d.Exp)
	case d.Signal:
		flags, d.Signal = invalid, false
	}
	if d.Class == api.NaN && toBig(d.Coef).Cmp(ten(g.room())) >= 0 {
		d.Coef = nothing
	}
	want, wrong := decimal.Pack(g.number, d)
	if errno != api.OK || wrong != api.OK {
		t.Fatalf("beneath: %d to %d, %x: %d %d", f.number, g.number, b, errno, wrong)
	}
	return want, flags
}

// P22.1: many drawn patterns of every pair of formats, in every direction, as the layers ahead have them.
func TestP22_1_Beneath(t *testing.T) {
	each(t, formats, func(t *testing.T, f format) {
		for seed := range uint64(200) {
			for _, b := range []api.Bits{f.drawn(seed + 1<<22), f.near(seed + 1<<22), f.tiny(seed + 1<<22)} {
				for _, g := range formats {
					direction := int(seed+uint64(g.number)) % 5
					want, flags := beneath(t, f, g, direction, b)
					converts(t, f.number, g.number, direction, b, want, flags)
				}
			}
		}
	})
}

// P22.1: a decimal number becomes what its text is read as, into every format, with the same flags.
func TestP22_1_ByText(t *testing.T) {
	each(t, decimals, func(t *testing.T, f format) {
		list := f.edges()
		for seed := range uint64(80) {
			list = append(list, f.drawn(seed), f.near(seed), f.tiny(seed))
		}
		for i, b := range list {
			_, _, signal, _ := convert.Class(f.number, b)
			s, errno := convert.Write(f.number, b)
			if errno != api.OK {
				t.Fatalf("Write(%d, %x): %d", f.number, b, errno)
			}
			// A text may signal, and raises nothing.
			if signal {
				continue
			}
			for _, g := range formats {
				direction := (i + g.number) % 5
				want, flags, errno := convert.Convert(f.number, g.number, direction, b)
				if errno != api.OK {
					t.Fatalf("Convert(%d, %d, %d, %x): %d", f.number, g.number, direction, b, errno)
				}
				reads(t, g.number, direction, s, want, flags)
			}
		}
	})
}

// P22.1: a binary number becomes what all its digits are read as: with noughts behind them, where it is a whole number, as the decimal formats then want the exponent 0.
func TestP22_1_ByDigits(t *testing.T) {
	each(t, binaries, func(t *testing.T, f format) {
		list := f.edges()
		for seed := range uint64(60) {
			list = append(list, f.near(seed), f.tiny(seed), f.drawn(seed))
		}
		tried := 0
		for i, b := range list {
			digits, exp, errno := fixed.Exact(f.number, b)
			if errno != api.OK || len(digits)+max(exp, 0) > api.MostText-20 {
				continue
			}
			tried++
			text := digits + noughts(max(exp, 0)) + "e" + big.NewInt(int64(min(exp, 0))).String()
			if f.of(b).sign {
				text = "-" + text
			}
			for _, g := range formats {
				direction := (i + g.number) % 5
				want, flags, errno := convert.Read(g.number, direction, text)
				if errno != api.OK {
					t.Fatalf("Read(%d, %d, %s): %d", g.number, direction, brief(text), errno)
				}
				converts(t, f.number, g.number, direction, b, want, flags)
			}
		}
		if tried < 50 {
			t.Errorf("%d: only %d numbers", f.number, tried)
		}
	})
}

// P22.1: with the other sign Up is Down, and all else is the same.
func TestP22_1_Signs(t *testing.T) {
	mirrored := []int{api.Even, api.Away, api.Zero, api.Down, api.Up}
	each(t, formats, func(t *testing.T, f format) {
		for seed := range uint64(50) {
			for _, b := range []api.Bits{f.drawn(seed + 1<<23), f.near(seed + 1<<23), f.tiny(seed + 1<<23)} {
				for _, g := range formats {
					direction := int(seed+uint64(g.number)) % 5
					want, flags, errno := convert.Convert(f.number, g.number, mirrored[direction], f.negated(b))
					if errno != api.OK {
						t.Fatalf("Convert(%d, %d, %x): %d", f.number, g.number, b, errno)
					}
					converts(t, f.number, g.number, direction, b, g.negated(want), flags)
				}
			}
		}
	})
}

// P6: into Double and Single, and between them, as the language does it.
func TestP6_Language(t *testing.T) {
	t.Parallel()
	single, double := numbered(api.Single), numbered(api.Double)
	for seed := range uint64(3000) {
		for _, b := range []api.Bits{double.drawn(seed), double.near(seed), double.tiny(seed)} {
			f := math.Float64frombits(b[0])
			if f != f {
				continue
			}
			got, _, errno := convert.Convert(api.Double, api.Single, api.Even, b)
			if want := native.FromFloat32(float32(f)); got != want || errno != api.OK {
				t.Errorf("%x: %x %d, not %x", b, got, errno, want)
			}
		}
		for _, b := range []api.Bits{single.drawn(seed), single.near(seed), single.tiny(seed)} {
			if f := math.Float32frombits(uint32(b[0])); f == f {
				always(t, api.Single, api.Double, b, native.FromFloat64(float64(f)), 0)
			}
		}
	}
}

// P22.1: Read and Write are layers 8 and 16, and 9 and 16; Class is what layers 5 and 14 have.
func TestP22_1_BeneathTexts(t *testing.T) {
	each(t, formats, func(t *testing.T, f format) {
		for seed := range uint64(400) {
			for i, b := range []api.Bits{f.drawn(seed + 1<<24), f.near(seed + 1<<24), f.tiny(seed + 1<<24)} {
				s := f.sameText(t, b)
				f.sameClass(t, b)
				// One digit more makes it another number, which is mostly rounded.
				for _, s := range []string{s, strings.Replace(s, "e", "7e", 1)} {
					want, flags, errno := f.read((int(seed)+i)%5, s)
					if errno == api.OK {
						reads(t, f.number, (int(seed)+i)%5, s, want, flags)
					} else {
						refusedText(t, f.number, (int(seed)+i)%5, s, errno)
					}
				}
			}
		}
	})
}

// read is what the layer ahead makes of a text.
func (f format) read(direction int, s string) (api.Bits, int, api.Errno) {
	if f.base == 2 {
		return readbin.Read(f.number, direction, s)
	}
	return dectext.Read(f.number, direction, s)
}

// sameClass fails unless Class answers what the layers ahead have.
func (f format) sameClass(t *testing.T, b api.Bits) {
	t.Helper()
	if f.base == 2 {
		d, _ := binary.Unpack(f.number, b)
		classes(t, f.number, b, d.Class, d.Sign, d.Signal)
		return
	}
	d, _, _ := decimal.Unpack(f.number, b)
	classes(t, f.number, b, d.Class, d.Sign, d.Signal)
}
