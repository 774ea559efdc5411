package crossout_test

import (
	"math"
	"math/big"
	"strconv"
	"testing"

	"caliper/api"
	"caliper/crossout"
)

// The chapter's examples.
func TestExamples(t *testing.T) {
	converts(t, 3, 10, api.Even, api.Bits{0x3dcccccd}, numbered(10).made(finite(false, ten(6), -7)), inexact)
	converts(t, 3, 10, api.Even, api.Bits{0x42c80000}, numbered(10).made(finite(false, big.NewInt(100), 0)), 0)
}

// TestPatterns holds patterns of both formats written out, without the oracle on either side.
func TestPatterns(t *testing.T) {
	for _, c := range []struct {
		from, to, direction int
		b, want             api.Bits
		flags               int
	}{
		// One, plain and dense.
		{api.Half, 7, api.Down, api.Bits{0x3c00}, api.Bits{0x32800001}, 0},
		{api.Brain, 8, api.Down, api.Bits{0x3f80}, api.Bits{0x31c0000000000001}, 0},
		{api.Single, 9, api.Down, api.Bits{0x3f800000}, api.Bits{1, 0x3040000000000000}, 0},
		{api.Double, 10, api.Up, api.Bits{0x3ff0000000000000}, api.Bits{0x22500001}, 0},
		{api.Quad, 11, api.Up, api.Bits{0, 0x3fff000000000000}, api.Bits{0x2238000000000001}, 0},
		{api.Octo, 12, api.Up, api.Bits{0, 0, 0, 0x3fff000000000000}, api.Bits{1, 0x2208000000000000}, 0},
		// Minus 7.5, 100, and 9999999, whose first digit, and first bits, stand otherwise.
		{api.Half, 7, api.Even, api.Bits{0xc780}, api.Bits{0xb200004b}, 0},
		{api.Half, 10, api.Even, api.Bits{0xc780}, api.Bits{0xa2400075}, 0},
		{api.Single, 7, api.Even, api.Bits{0x42c80000}, api.Bits{0x32800064}, 0},
		{api.Single, 10, api.Even, api.Bits{0x42c80000}, api.Bits{0x22500080}, 0},
		{api.Single, 7, api.Even, api.Bits{0x4b18967f}, api.Bits{0x6cb8967f}, 0},
		{api.Single, 10, api.Even, api.Bits{0x4b18967f}, api.Bits{0x6e53fcff}, 0},
		// What is next to 0.1, to the nearest and upwards.
		{api.Single, 7, api.Even, api.Bits{0x3dcccccd}, api.Bits{0x2f0f4240}, inexact},
		{api.Single, 10, api.Even, api.Bits{0x3dcccccd}, api.Bits{0x25e00000}, inexact},
		{api.Single, 7, api.Up, api.Bits{0x3dcccccd}, api.Bits{0x2f0f4241}, inexact},
		{api.Single, 10, api.Up, api.Bits{0x3dcccccd}, api.Bits{0x25e00001}, inexact},
		{api.Single, 10, api.Down, api.Bits{0xbdcccccd}, api.Bits{0xa5e00001}, inexact},
		// The greatest and the least one of Double, where there is no room for them.
		{api.Double, 7, api.Even, api.Bits{0x7fefffffffffffff}, api.Bits{0x78000000}, overflow},
		{api.Double, 7, api.Zero, api.Bits{0x7fefffffffffffff}, api.Bits{0x77f8967f}, overflow},
		{api.Double, 10, api.Up, api.Bits{0xffefffffffffffff}, api.Bits{0xf7f3fcff}, overflow},
		{api.Double, 10, api.Down, api.Bits{0xffefffffffffffff}, api.Bits{0xf8000000}, overflow},
		{api.Double, 7, api.Even, api.Bits{1}, api.Bits{}, underflow},
		{api.Double, 10, api.Up, api.Bits{1}, api.Bits{1}, underflow},
		{api.Double, 10, api.Up, api.Bits{1<<63 | 1}, api.Bits{0x80000000}, underflow},
		// Noughts and infinities.
		{api.Half, 7, api.Down, api.Bits{0x8000}, api.Bits{0xb2800000}, 0},
		{api.Half, 10, api.Down, api.Bits{}, api.Bits{0x22500000}, 0},
		{api.Double, 8, api.Up, api.Bits{}, api.Bits{0x31c0000000000000}, 0},
		{api.Double, 11, api.Up, api.Bits{1 << 63}, api.Bits{0xa238000000000000}, 0},
		{api.Octo, 9, api.Zero, api.Bits{}, api.Bits{0, 0x3040000000000000}, 0},
		{api.Octo, 12, api.Zero, api.Bits{0, 0, 0, 1 << 63}, api.Bits{0, 0xa208000000000000}, 0},
		{api.Brain, 7, api.Zero, api.Bits{0x7f80}, api.Bits{0x78000000}, 0},
		{api.Brain, 11, api.Zero, api.Bits{0xff80}, api.Bits{0xf800000000000000}, 0},
		{api.Quad, 12, api.Down, api.Bits{0, 0x7fff000000000000}, api.Bits{0, 0x7800000000000000}, 0},
		// NaNs: payloads that the decimal format has and that it has not, quiet and signalling.
		{api.Half, 7, api.Even, api.Bits{0x7e05}, api.Bits{0x7c000005}, 0},
		{api.Half, 10, api.Even, api.Bits{0xfdff}, api.Bits{0xfc000291}, invalid},
		{api.Single, 7, api.Even, api.Bits{0x7fcf423f}, api.Bits{0x7c0f423f}, 0},
		{api.Single, 10, api.Even, api.Bits{0x7f8f423f}, api.Bits{0x7c03fcff}, invalid},
		{api.Single, 7, api.Even, api.Bits{0x7fcf4240}, api.Bits{0x7c000000}, 0},
		{api.Single, 10, api.Even, api.Bits{0xff8f4240}, api.Bits{0xfc000000}, invalid},
		{api.Single, 8, api.Even, api.Bits{0x7fffffff}, api.Bits{0x7c000000003fffff}, 0},
		{api.Double, 12, api.Even, api.Bits{0x7ff8000000000007}, api.Bits{7, 0x7c00000000000000}, 0},
		{api.Quad, 9, api.Even, api.Bits{0x38c15b09ffffffff, 0xffff_b14d_c644_8d93}, api.Bits{0x38c15b09ffffffff, 0xfc00_314d_c644_8d93}, 0},
		{api.Quad, 9, api.Even, api.Bits{0x38c15b0a00000000, 0xffff_b14d_c644_8d93}, api.Bits{0, 0xfc00_0000_0000_0000}, 0},
	} {
		converts(t, c.from, c.to, c.direction, c.b, c.want, c.flags)
	}
}

// P19.1: all patterns of the two smallest formats, in every direction and with both signs.
func TestP19_1_AllPatterns(t *testing.T) {
	t.Parallel()
	for _, f := range sources[:2] {
		t.Run(strconv.Itoa(f.number), func(t *testing.T) {
			t.Parallel()
			for n := range int64(1 << (f.width - 1)) {
				f.goes(t, big.NewInt(n))
			}
		})
	}
}

// edges are patterns without sign: 0 and the least ones, those about the greatest one that isn't normal, about one, the greatest ones, the infinity and what lies above it, the least and the greatest payloads.
func (f source) edges() []*big.Int {
	one := f.pattern(two(f.precision-1), 1-f.precision)
	list := []*big.Int{new(big.Int), f.infinity()}
	for more := range int64(5) {
		list = append(list, big.NewInt(1+more), plus(f.infinity(), -1-more))
		list = append(list, plus(two(f.precision-1), more-2), plus(two(f.precision), more-2), plus(one, more-2))
		list = append(list, plus(f.infinity(), 1+more), plus(two(f.width-1), -1-more), plus(f.nan(new(big.Int), false), more-2))
	}
	return list
}

// P19.1: the edges of every format, in every direction and with both signs.
func TestP19_1_Edges(t *testing.T) {
	each(t, func(t *testing.T, f source) {
		for _, pattern := range f.edges() {
			f.goes(t, pattern)
		}
	})
}

// P19.1: powers of two and their neighbours: of the widest formats some of them, and all near one.
func TestP19_1_Powers(t *testing.T) {
	each(t, func(t *testing.T, f source) {
		tried := 0
		for n := f.least; n < f.most+f.precision; n++ {
			if f.width >= 128 && n%29 != 0 && (n < -130 || n > 130) {
				continue
			}
			pattern, ok := f.holding(big.NewInt(1), n)
			if !ok {
				t.Fatalf("%d: 2^%d isn't the oracle's", f.number, n)
			}
			for more := int64(-1); more <= 1; more++ {
				tried++
				if n > -130 && n < 130 {
					f.goes(t, plus(pattern, more))
				} else {
					f.turn(t, plus(pattern, more), tried)
				}
			}
		}
	})
}

// P19.1: each bit of a pattern alone, all below it, and all above it.
func TestP19_1_SingleBits(t *testing.T) {
	each(t, func(t *testing.T, f source) {
		for n := range f.width - 1 {
			under := plus(two(n), -1)
			f.turn(t, two(n), n)
			f.turn(t, under, n+3)
			f.turn(t, new(big.Int).Sub(plus(two(f.width-1), -1), under), n+6)
		}
	})
}

// P19.1: 0 has the sign and the exponent 0, and raises nothing; and so for infinities.
func TestP19_1_NoughtsAndInfinities(t *testing.T) {
	for _, f := range sources {
		for _, g := range targets {
			for _, sign := range signs {
				f.always(t, g, f.signed(new(big.Int), sign), finite(sign, new(big.Int), 0), 0)
				f.always(t, g, f.signed(f.infinity(), sign), api.Datum{Class: api.Infinite, Sign: sign}, 0)
			}
		}
	}
}

// payloads are those at the format's own edges and at every decimal format's, single bits, and drawn ones of every length.
func (f source) payloads() []*big.Int {
	bound := two(f.precision - 2)
	list := []*big.Int{new(big.Int), plus(bound, -2), plus(bound, -1)}
	for n := range f.precision - 2 {
		list = append(list, two(n), plus(two(n), -1), among(uint64(n), two(n), two(n+1)))
	}
	for _, g := range targets[:3] {
		for more := int64(-2); more <= 2; more++ {
			list = append(list, plus(ten(g.precision-1), more))
		}
		for count := 1; count < g.precision; count++ {
			list = append(list, ten(count), plus(ten(count), -1))
		}
	}
	var within []*big.Int
	for _, payload := range list {
		if payload.Cmp(bound) < 0 {
			within = append(within, payload)
		}
	}
	return within
}

// P19.1: NaNs quiet and signalling, of both signs: the payload stays, or is 0 where it is too great; just Invalid of those that signalled.
func TestP19_1_NaNs(t *testing.T) {
	each(t, func(t *testing.T, f source) {
		for _, g := range targets {
			kept, lost := 0, 0
			for _, payload := range f.payloads() {
				want := api.Datum{Class: api.NaN, Coef: toBits(payload)}
				if len(payload.String()) > g.precision-1 {
					want.Coef = nothing
					lost++
				} else {
					kept++
				}
				for _, want.Sign = range signs {
					f.always(t, g, f.signed(f.nan(payload, false), want.Sign), want, 0)
					if payload.Sign() != 0 {
						f.always(t, g, f.signed(f.nan(payload, true), want.Sign), want, invalid)
					}
				}
			}
			// 10^(P - 1) against 2^(P - 2): which decimal formats have all payloads of a binary one.
			holds := ten(g.precision-1).Cmp(two(f.precision-2)) >= 0
			if kept == 0 || (lost == 0) != holds {
				t.Errorf("%d to %d: %d payloads are kept, %d are lost", f.number, g.number, kept, lost)
			}
		}
	})
}

// P19.1: whole numbers below 10^P come out as they are, with the exponent 0, in every direction.
func TestP19_1_Whole(t *testing.T) {
	each(t, func(t *testing.T, f source) {
		for _, g := range targets {
			tried := 0
			for seed := range uint64(400) {
				n := big.NewInt(int64(seed + 1))
				switch {
				case seed >= 350:
					n = plus(ten(g.precision), 349-int64(seed))
				case seed >= 200:
					// Numbers of every length, some of them with noughts behind.
					n = among(seed, two(int(seed)%f.precision), two(int(seed)%f.precision+1))
					n = times(n, ten(int(seed)%7*int(seed%2)))
				}
				pattern, ok := f.holding(n, 0)
				if !ok || n.Cmp(ten(g.precision)) >= 0 {
					continue
				}
				tried++
				for _, sign := range signs {
					f.always(t, g, f.signed(pattern, sign), finite(sign, n, 0), 0)
				}
			}
			if tried < 200 {
				t.Errorf("%d to %d: only %d whole numbers", f.number, g.number, tried)
			}
		}
	})
}

// P19.1: whole numbers from 10^P on that the format has, by the noughts behind: with all digits that there is room for, and so the least exponent.
func TestP19_1_Noughts(t *testing.T) {
	each(t, func(t *testing.T, f source) {
		for _, g := range targets {
			tried := 0
			for exp := 1; exp < g.most+g.precision; exp++ {
				bound := new(big.Int).Quo(two(f.precision), power(5, exp))
				if bound.Cmp(big.NewInt(1)) <= 0 {
					break
				}
				for seed := range uint64(6) {
					// An odd number has its noughts by the power of ten alone.
					n := drawn(seed+uint64(exp)*8, bound)
					n.Rsh(n, uint(seed%3)*uint(n.BitLen())/4).SetBit(n, 0, 1)
					length := len(n.String())
					pattern, ok := f.holding(times(n, power(5, exp)), exp)
					least := exp - (g.precision - length)
					if !ok || length > g.precision || least < 1 || least > g.most {
						continue
					}
					tried++
					want := times(n, ten(g.precision-length))
					for _, sign := range signs {
						f.always(t, g, f.signed(pattern, sign), finite(sign, want, least), 0)
					}
				}
			}
			// 10^P is 2^P times 5^P.
			if has := power(5, g.precision).BitLen() <= f.precision; has != (tried > 0) {
				t.Errorf("%d to %d: %d numbers with noughts behind", f.number, g.number, tried)
			}
		}
	})
}

// P19.1: halves, quarters and so on, odd numbers over a power of two: fives make them whole, and the exponent is how many.
func TestP19_1_Fractions(t *testing.T) {
	each(t, func(t *testing.T, f source) {
		for _, g := range targets {
			tried := 0
			for below := 1; power(5, below).Cmp(ten(g.precision)) < 0; below++ {
				for seed := range uint64(20) {
					odd := big.NewInt(2*int64(seed) + 1)
					if seed >= 10 {
						odd = drawn(seed+uint64(below)*32, two(f.precision))
						odd.Rsh(odd, uint(seed-10)*uint(odd.BitLen())/10).SetBit(odd, 0, 1)
					}
					pattern, ok := f.holding(odd, -below)
					coef := times(odd, power(5, below))
					if !ok || coef.Cmp(ten(g.precision)) >= 0 {
						continue
					}
					tried++
					for _, sign := range signs {
						f.always(t, g, f.signed(pattern, sign), finite(sign, coef, -below), 0)
					}
				}
			}
			if tried < 50 {
				t.Errorf("%d to %d: only %d fractions", f.number, g.number, tried)
			}
		}
	})
}

// P19.1: many drawn patterns: any, such as aren't normal, such as lie about one, and such as have few bits.
func TestP19_1_Drawn(t *testing.T) {
	each(t, func(t *testing.T, f source) {
		count := uint64(1500)
		if f.width >= 128 {
			count = 120
		}
		for seed := range count {
			f.goes(t, drawn(4*seed, f.infinity()))
			f.turn(t, drawn(4*seed+1, two(f.precision-1)), int(seed))
			coef := among(4*seed+2, two(f.precision-1), two(f.precision))
			near := int(scattered(seed)%uint64(2*f.precision)) - f.precision*3/2
			f.goes(t, f.pattern(coef, min(max(near, f.least), f.most)))
			few, _ := f.holding(drawn(4*seed+3, big.NewInt(64)), int(scattered(seed+1<<40)%20)-10)
			f.goes(t, few)
			f.turn(t, plus(f.infinity(), 0).Add(f.infinity(), drawn(4*seed+3, two(f.precision-1))), int(seed))
		}
	})
}

// P19.1: of Single and Double, to the nearest, as the language writes the same numbers with as many digits.
func TestP19_1_Language(t *testing.T) {
	t.Parallel()
	for _, f := range sources[2:4] {
		var list []*big.Int
		for seed := range uint64(4000) {
			list = append(list, drawn(seed+1<<30, f.infinity()))
		}
		for _, pattern := range append(list, f.edges()...) {
			if pattern.Sign() == 0 || pattern.Cmp(f.infinity()) >= 0 {
				continue
			}
			value := math.Float64frombits(pattern.Uint64())
			if f.width == 32 {
				value = float64(math.Float32frombits(uint32(pattern.Uint64())))
			}
			for _, g := range targets {
				f.asWritten(t, g, pattern, strconv.FormatFloat(value, 'e', g.precision-1, 64))
			}
		}
	}
}

// asWritten fails unless a pattern becomes the number of a text of just as many digits as there is room for. Numbers beyond the format's reach, or that it has, are left to others.
func (f source) asWritten(t *testing.T, g target, pattern *big.Int, text string) {
	t.Helper()
	coef := parsed(text[:1]+text[2:1+g.precision], 10)
	place, err := strconv.Atoi(text[2+g.precision:])
	if err != nil {
		t.Fatalf("%s: %v", text, err)
	}
	got, flags, errno := crossout.Convert(f.number, g.number, api.Even, f.signed(pattern, false))
	exp := place - g.precision + 1
	if exp <= g.least || exp > g.most || flags == 0 {
		return
	}
	if want := g.made(finite(false, coef, exp)); got != want || flags != inexact || errno != api.OK {
		t.Errorf("Convert(%d, %d, %x), %s: %x %d %d, not %x", f.number, g.number, pattern, text, got, flags, errno, want)
	}
}
