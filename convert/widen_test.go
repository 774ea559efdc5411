package convert_test

import (
	"math/big"
	"strconv"
	"testing"

	"caliper/api"
	"caliper/convert"
	"caliper/desc"
	"caliper/transcode"
)

// holds says whether all finite numbers of a format are the other one's: of one base by their bounds; and 34 digits are enough for Half, whose least number, 2^-24, is 5^24 times 10^-24, and whose numbers have at most 21 digits.
func holds(f, g format) bool {
	if f.base != g.base {
		return f.number == api.Half && g.base == 10 && g.width == 128
	}
	return f.precision <= g.precision && f.least >= g.least && f.most+f.precision <= g.most+g.precision
}

// TestHolds holds the oracle's bounds against layer 4's, of formats of one base.
func TestHolds(t *testing.T) {
	for _, f := range formats {
		for _, g := range formats {
			if f.base == g.base && holds(f, g) != desc.Holds(f.number, g.number) {
				t.Errorf("%d in %d: %t", f.number, g.number, holds(f, g))
			}
		}
	}
}

// back fails unless a pattern goes into a format that holds its own, and comes back, each way in some direction, as its canonical pattern, without flags: but one that signals, which does it no more.
func (f format) back(t *testing.T, g format, direction int, b api.Bits) {
	t.Helper()
	want, wantFlags := f.own(b)
	there, flags, errno := convert.Convert(f.number, g.number, direction, b)
	if flags != wantFlags || errno != api.OK {
		t.Errorf("Convert(%d, %d, %d, %x): %x %d %d, not the flags %d", f.number, g.number, direction, b, there, flags, errno, wantFlags)
	}
	converts(t, g.number, f.number, (direction+int(there[0]%5))%5, there, want, 0)
}

// P4, P22.1: what goes into a format that holds the first one, and back, is the same pattern, its exponent too if it is decimal.
func TestP4_Back(t *testing.T) {
	t.Parallel()
	for _, f := range formats {
		for _, g := range formats {
			if !holds(f, g) {
				continue
			}
			t.Run(strconv.Itoa(f.number)+" by "+strconv.Itoa(g.number), func(t *testing.T) {
				t.Parallel()
				for i, b := range f.many() {
					f.back(t, g, i%5, b)
				}
			})
		}
	}
}

// many are patterns to go and come back with: of every third of Half and Brain one, of the others edges, single bits at every place, patterns that aren't canonical, and drawn ones.
func (f format) many() []api.Bits {
	list := append(f.edges(), f.nans(f.payloads())...)
	if f.width == 16 {
		for n := int64(0); n < 1<<16; n += 3 {
			list = append(list, toBits(big.NewInt(n)))
		}
		return list
	}
	for n := range f.width {
		list = append(list, toBits(two(n)), toBits(plus(two(n), -1)), toBits(new(big.Int).Sub(two(f.width), two(n))))
	}
	if f.base == 10 {
		for _, pair := range f.strange() {
			list = append(list, pair[1])
		}
	}
	for seed := range uint64(600) {
		list = append(list, f.drawn(seed+1<<21), f.near(seed+1<<21), f.tiny(seed+1<<21))
	}
	return list
}

// P4: a number of a format that a second one holds comes to the same by way of that as straight, into every format, with the flags of both ways.
func TestP4_ByTheWay(t *testing.T) {
	each(t, formats, func(t *testing.T, f format) {
		for _, g := range formats {
			// A decimal exponent would be lost on the way through another base, as it is a binary number's that it isn't 0.
			if f.number == g.number || !holds(f, g) || f.base != g.base {
				continue
			}
			for _, h := range formats {
				for seed := range uint64(30) {
					for i, b := range []api.Bits{f.drawn(seed), f.near(seed), f.tiny(seed)} {
						direction := (int(seed) + i) % 5
						want, flags, _ := convert.Convert(f.number, h.number, direction, b)
						there, more, _ := convert.Convert(f.number, g.number, (direction+1)%5, b)
						if more == invalid {
							flags = 0
						}
						converts(t, g.number, h.number, direction, there, want, flags)
					}
				}
			}
		}
	})
}

// P5: whatever is done with plain ones may be done with dense ones: twins become twins, or the same, with the same flags.
func TestP5_Twins(t *testing.T) {
	each(t, decimals[:3], func(t *testing.T, f format) {
		for seed := range uint64(100) {
			for i, b := range []api.Bits{f.drawn(seed), f.near(seed), f.tiny(seed)} {
				code, _ := transcode.Code(f.number, b)
				direction := (int(seed) + i) % 5
				for _, g := range formats {
					want, flags, errno := convert.Convert(f.number, g.number, direction, b)
					if errno != api.OK {
						t.Fatalf("Convert(%d, %d, %d, %x): %d", f.number, g.number, direction, b, errno)
					}
					converts(t, f.twin, g.number, direction, code, want, flags)
					if g.base == 10 {
						want, _ = transcode.Code(g.number, want)
						converts(t, f.twin, g.twin, direction, code, want, flags)
					}
				}
			}
		}
	})
}

// P19.2, by this layer: a Double, and what is narrower, goes into 34 digits and back, both ways to the nearest, as the same pattern.
func TestP4_Doubles(t *testing.T) {
	each(t, binaries[:4], func(t *testing.T, f format) {
		list := append(f.edges(), f.nans(f.payloads())...)
		for seed := range uint64(300) {
			list = append(list, f.drawn(seed), f.near(seed), f.tiny(seed))
		}
		for _, b := range list {
			for _, g := range of(128) {
				there, _, errno := convert.Convert(f.number, g.number, api.Even, b)
				got, flags, wrong := convert.Convert(g.number, f.number, api.Even, there)
				if want, _ := f.own(b); got != want || flags&(api.Invalid+api.Overflow) != 0 || errno != api.OK || wrong != api.OK {
					t.Errorf("%x of %d by %x of %d: %x %d %d %d", b, f.number, there, g.number, got, flags, errno, wrong)
				}
			}
		}
	})
}
