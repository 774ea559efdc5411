package convert_test

import (
	"math/big"
	"testing"

	"caliper/api"
)

// The chapter's examples.
func TestExamples(t *testing.T) {
	converts(t, 10, 11, api.Even, api.Bits{0x22500001}, api.Bits{0x2238000000000001}, 0)
	reads(t, 3, api.Even, "1", api.Bits{0x3f800000}, 0)
}

// P22.1: all patterns of the two smallest formats, each into every third format, and in each direction in its turn.
func TestP22_1_AllPatterns(t *testing.T) {
	each(t, binaries[:2], func(t *testing.T, f format) {
		for n := range int64(1 << f.width) {
			b := toBits(big.NewInt(n))
			for i := int(n % 3); i < len(formats); i += 3 {
				f.turn(t, formats[i], int(n/3+n>>4)%5, b)
			}
		}
	})
}

// P22.1: the edges of every format, into every format, in every direction and with both signs.
func TestP22_1_Edges(t *testing.T) {
	each(t, formats, func(t *testing.T, f format) {
		for _, b := range f.edges() {
			f.goes(t, b)
		}
	})
}

// P22.1: each bit of a pattern alone, all below it, and all above it.
func TestP22_1_SingleBits(t *testing.T) {
	each(t, formats, func(t *testing.T, f format) {
		for n := range f.width {
			under := plus(two(n), -1)
			above := new(big.Int).Sub(plus(two(f.width), -1), under)
			for _, g := range formats {
				f.turn(t, g, (n+g.number)%5, toBits(two(n)))
				f.turn(t, g, (n+g.number+1)%5, toBits(under))
				f.turn(t, g, (n+g.number+3)%5, toBits(above))
			}
		}
	})
}

// P22.1: drawn patterns, and drawn numbers about one and such as aren't of full length.
func TestP22_1_Drawn(t *testing.T) {
	each(t, formats, func(t *testing.T, f format) {
		for seed := range uint64(150) {
			for _, g := range formats {
				direction := int(seed+uint64(g.number)) % 5
				f.turn(t, g, direction, f.drawn(seed))
				f.turn(t, g, direction, f.near(seed))
				f.turn(t, g, direction, f.tiny(seed))
			}
		}
	})
}

// one is a format's number 1: a decimal one with no noughts behind it.
func (f format) one(sign bool) api.Bits {
	if f.base == 2 {
		return f.finite(sign, f.normal(), 1-f.precision)
	}
	return f.finite(sign, big.NewInt(1), 0)
}

// P22.1: one is one everywhere.
func TestP22_1_One(t *testing.T) {
	for _, f := range formats {
		for _, g := range formats {
			for _, sign := range signs {
				always(t, f.number, g.number, f.one(sign), g.one(sign), 0)
			}
		}
	}
}

// P22.1: 0 keeps its sign. Into a decimal format it has the exponent that it had, or the nearest one that is there, and coming from a binary one 0; it raises nothing.
func TestP22_1_Noughts(t *testing.T) {
	for _, f := range formats {
		exps := []int{0}
		if f.base == 10 {
			exps = append(f.exps(), -398, -399, -101, -102, 90, 91, 369, 370, 5)
		}
		for _, exp := range exps {
			exp = min(max(exp, f.least), f.most)
			for _, g := range formats {
				for _, sign := range signs {
					always(t, f.number, g.number, f.nought(sign, exp), g.nought(sign, exp), 0)
				}
			}
		}
	}
	// Some of them without the oracle.
	always(t, 1, 2, api.Bits{0x8000}, api.Bits{0x8000}, 0)
	always(t, 3, 10, api.Bits{}, api.Bits{0x22500000}, 0)
	always(t, 10, 3, api.Bits{0xa2500000}, api.Bits{0x80000000}, 0)
	always(t, 7, 10, api.Bits{0x32800000}, api.Bits{0x22500000}, 0)
	always(t, 11, 10, api.Bits{}, api.Bits{}, 0)
	always(t, 10, 11, api.Bits{}, api.Bits{0x20a4000000000000}, 0)
	always(t, 11, 10, api.Bits{1<<63 | 0x43fc000000000000}, api.Bits{0xc3f00000}, 0)
}

// P22.1: infinities stay infinite, with their sign, and raise nothing.
func TestP22_1_Infinities(t *testing.T) {
	for _, f := range formats {
		for _, g := range formats {
			for _, sign := range signs {
				always(t, f.number, g.number, f.infinity(sign), g.infinity(sign), 0)
			}
		}
	}
	// Some of them without the oracle.
	always(t, 1, 3, api.Bits{0x7c00}, api.Bits{0x7f800000}, 0)
	always(t, 3, 7, api.Bits{0xff800000}, api.Bits{0xf8000000}, 0)
	always(t, 7, 3, api.Bits{0x78000000}, api.Bits{0x7f800000}, 0)
	always(t, 10, 11, api.Bits{0xf8000000}, api.Bits{0xf800000000000000}, 0)
	always(t, 12, 9, api.Bits{0, 0x7800000000000000}, api.Bits{0, 0x7800000000000000}, 0)
}

// P22.1: NaNs don't signal any more, and have their payload, where there is room for it: 0, 1, the greatest one that fits, the least one that doesn't, and the greatest one of the old format. Those that signalled raise Invalid, and nothing else does.
func TestP22_1_NaNs(t *testing.T) {
	for _, f := range formats {
		for _, g := range formats {
			bound := power(g.base, g.room())
			payloads := append(f.payloads(), plus(bound, -1), bound, plus(bound, 1))
			for _, b := range f.nans(payloads) {
				m := f.of(b)
				flags, payload := 0, m.coef
				if m.signal {
					flags = invalid
				}
				if payload.Cmp(bound) >= 0 {
					payload = new(big.Int)
				}
				always(t, f.number, g.number, b, g.nan(m.sign, false, payload), flags)
			}
		}
	}
}

// TestNaNsWritten holds NaNs without the oracle on either side.
func TestNaNsWritten(t *testing.T) {
	for _, c := range []struct {
		from, to int
		b, want  api.Bits
		flags    int
	}{
		{1, 2, api.Bits{0x7e3f}, api.Bits{0x7fff}, 0},
		{1, 2, api.Bits{0x7e40}, api.Bits{0x7fc0}, 0},
		{1, 2, api.Bits{0xfc40}, api.Bits{0xffc0}, invalid},
		{1, 1, api.Bits{0xfc01}, api.Bits{0xfe01}, invalid},
		{3, 1, api.Bits{0x7f8001ff}, api.Bits{0x7fff}, invalid},
		{3, 1, api.Bits{0x7f800200}, api.Bits{0x7e00}, invalid},
		{3, 1, api.Bits{0x7fffffff}, api.Bits{0x7e00}, 0},
		{4, 7, api.Bits{0x7ff80000000f423f}, api.Bits{0x7c0f423f}, 0},
		{4, 7, api.Bits{0x7ff80000000f4240}, api.Bits{0x7c000000}, 0},
		{4, 10, api.Bits{0xfff00000000f423f}, api.Bits{0xfc03fcff}, invalid},
		{7, 1, api.Bits{0x7e0001ff}, api.Bits{0x7fff}, invalid},
		{7, 1, api.Bits{0x7c000200}, api.Bits{0x7e00}, 0},
		{10, 3, api.Bits{0xfe000000}, api.Bits{0xffc00000}, invalid},
		{10, 3, api.Bits{0x7c03fcff}, api.Bits{0x7fcf423f}, 0},
		{7, 10, api.Bits{0x7e0f423f}, api.Bits{0x7c03fcff}, invalid},
		{10, 7, api.Bits{0xfc03fcff}, api.Bits{0xfc0f423f}, 0},
		{8, 7, api.Bits{0x7c000000000f423f}, api.Bits{0x7c0f423f}, 0},
		{8, 7, api.Bits{0x7c000000000f4240}, api.Bits{0x7c000000}, 0},
		{8, 10, api.Bits{0xfe000000000f4240}, api.Bits{0xfc000000}, invalid},
		{11, 10, api.Bits{0x7e0000000003fcff}, api.Bits{0x7c03fcff}, invalid},
		{11, 10, api.Bits{0x7e00000000100000}, api.Bits{0x7c000000}, invalid},
		{10, 11, api.Bits{0xfe03fcff}, api.Bits{0xfc0000000003fcff}, invalid},
		{10, 10, api.Bits{0x7e03fcff}, api.Bits{0x7c03fcff}, invalid},
		{7, 7, api.Bits{0xfe0f423f}, api.Bits{0xfc0f423f}, invalid},
		{12, 11, api.Bits{5, 0x7c00000000000000}, api.Bits{0x7c00000000000005}, 0},
		{6, 5, api.Bits{7, 0, 0, 0x7fff000000000000}, api.Bits{7, 0x7fff800000000000}, invalid},
		{5, 9, api.Bits{0x38c15b09ffffffff, 0xffff_b14d_c644_8d93}, api.Bits{0x38c15b09ffffffff, 0xfc00_314d_c644_8d93}, 0},
		{5, 9, api.Bits{0x38c15b0a00000000, 0xffff_b14d_c644_8d93}, api.Bits{0, 0xfc00_0000_0000_0000}, 0},
	} {
		always(t, c.from, c.to, c.b, c.want, c.flags)
	}
}

// beyond says whether a format's greatest number is too great for another format: by the powers of two, or of ten, that are about as great.
func beyond(f, g format) bool {
	return f.reach() > g.reach()
}

// reach is about how many digits the greatest number has: the greatest binary exponents lie far from those of decimal formats, and plain and dense ones have one reach, as all with 15 bits of exponents, and all with 8, do.
func (f format) reach() int {
	return map[int]int{1: 5, 2: 39, 3: 39, 4: 309, 5: 4932, 6: 4932, 7: 97, 8: 385, 9: 6145, 10: 97, 11: 385, 12: 6145}[f.number]
}

// P22.1: what is too great is infinite, or the greatest finite number where the direction is Zero or leads away from the infinity.
func TestP22_1_TooGreat(t *testing.T) {
	for _, f := range formats {
		for _, g := range formats {
			if !beyond(f, g) {
				continue
			}
			for _, sign := range signs {
				b := f.greatest(sign)
				converts(t, f.number, g.number, api.Even, b, g.infinity(sign), overflow)
				converts(t, f.number, g.number, api.Away, b, g.infinity(sign), overflow)
				converts(t, f.number, g.number, api.Zero, b, g.greatest(sign), overflow)
				out, back := api.Up, api.Down
				if sign {
					out, back = api.Down, api.Up
				}
				converts(t, f.number, g.number, out, b, g.infinity(sign), overflow)
				converts(t, f.number, g.number, back, b, g.greatest(sign), overflow)
			}
		}
	}
}

// depth is about how many noughts stand between the point and the least number.
func (f format) depth() int {
	return map[int]int{1: 8, 2: 41, 3: 45, 4: 324, 5: 4966, 6: 5004, 7: 101, 8: 398, 9: 6176, 10: 101, 11: 398, 12: 6176}[f.number]
}

// P22.1: what is too small is 0, or the least number where the direction leads there: numbers far below the half of that.
func TestP22_1_TooSmall(t *testing.T) {
	for _, f := range formats {
		for _, g := range formats {
			if f.depth() <= g.depth() {
				continue
			}
			for _, sign := range signs {
				b, nought := f.tiniest(sign), g.nought(sign, g.least)
				converts(t, f.number, g.number, api.Even, b, nought, underflow)
				converts(t, f.number, g.number, api.Away, b, nought, underflow)
				converts(t, f.number, g.number, api.Zero, b, nought, underflow)
				out, back := api.Up, api.Down
				if sign {
					out, back = api.Down, api.Up
				}
				converts(t, f.number, g.number, out, b, g.tiniest(sign), underflow)
				converts(t, f.number, g.number, back, b, nought, underflow)
			}
		}
	}
}
