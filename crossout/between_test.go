package crossout_test

import (
	"math/big"
	"testing"
)

// against is how coef times 2^n holds against other times 10^exp.
func against(coef *big.Int, n int, other *big.Int, exp int) int {
	left := times(coef, times(ten(max(-exp, 0)), two(max(n, 0))))
	right := times(other, times(ten(max(exp, 0)), two(max(-n, 0))))
	return left.Cmp(right)
}

// side is where a binary number lies that isn't below low times 10^exp nor above the next number: held against that one, the middle to the next one, and the next one. ok is whether it lies there at all.
func (f source) side(pattern, low *big.Int, exp int) (side int, ok bool) {
	c, n := f.reading(pattern)
	// Twice the binary number is held against twice the decimal ones, so that the middle is a whole number too.
	twice := new(big.Int).Lsh(low, 1)
	at := against(c, n+1, twice, exp)
	if at < 0 || against(c, n+1, plus(twice, 2), exp) >= 0 {
		return 0, false
	}
	switch against(c, n+1, plus(twice, 1), exp) {
	case 0:
		return middle, true
	case 1:
		return above, true
	}
	if at == 0 {
		return exact, true
	}
	return below, true
}

// around fails unless a binary number becomes what it must by the side of the decimal one next to it, towards 0, on which it lies: the oracle's rounding has no part in that. It tells the spot, or ok false of a number that isn't below all that overflow.
func (f source) around(t *testing.T, g target, pattern *big.Int) (s spot, ok bool) {
	t.Helper()
	m := f.meant(pattern)
	top := len(m.digits) + m.exp
	greatest := plus(ten(g.precision), -1)
	if top > g.most+g.precision {
		f.lies(t, g, pattern, spot{greatest, g.most, above, overflow, overflow})
		return spot{}, false
	}
	exp := max(g.least, top-g.precision)
	head, _ := cut(m.digits, top-exp)
	s = spot{coef: parsed(head, 10), exp: exp}
	s.side, ok = f.side(pattern, s.coef, exp)
	if !ok {
		t.Fatalf("the oracle isn't at one with itself: %x of %d, %d e%d", pattern, f.number, s.coef, exp)
	}
	s.lowFlag = inexact
	if s.coef.Cmp(ten(g.precision-1)) < 0 {
		s.lowFlag = underflow
	}
	s.nextFlag = s.lowFlag
	if exp == g.most && s.coef.Cmp(greatest) == 0 {
		s.nextFlag = overflow
	}
	if s.side == exact {
		f.lies(t, g, pattern, g.towards(s))
	} else {
		f.lies(t, g, pattern, s)
	}
	return s, true
}

// towards is an exact spot with the exponent as near to 0 as it goes, step by step, and without flags.
func (g target) towards(s spot) spot {
	coef, exp, tenth := s.coef, s.exp, big.NewInt(10)
	for exp < 0 && new(big.Int).Mod(coef, tenth).Sign() == 0 {
		coef, exp = new(big.Int).Quo(coef, tenth), exp+1
	}
	for exp > 0 && times(coef, tenth).Cmp(ten(g.precision)) < 0 {
		coef, exp = times(coef, tenth), exp-1
	}
	return spot{coef: coef, exp: exp, side: exact}
}

// place is a decimal number, coef times 10^exp.
type place struct {
	coef *big.Int
	exp  int
}

// edges are decimal numbers next to which binary ones are tried: from 0 on, about the least one of full length, the greatest ones, about powers of ten of every size, and drawn ones.
func (g target) edges() []place {
	greatest, least := plus(ten(g.precision), -1), ten(g.precision-1)
	list := []place{}
	for more := range int64(4) {
		list = append(list, place{big.NewInt(more), g.least}, place{plus(greatest, -more), g.most}, place{plus(least, more-2), g.least})
		list = append(list, place{plus(greatest, -more), -g.precision}, place{plus(least, more), 0}, place{plus(greatest, -more), 1})
	}
	for seed := range uint64(12) {
		exp := g.least + int(scattered(seed)%uint64(g.most-g.least))
		list = append(list, place{greatest, exp}, place{least, exp + 1}, place{among(seed, least, greatest), exp})
		near := int(scattered(seed+100)%uint64(3*g.precision)) - 2*g.precision
		list = append(list, place{greatest, near}, place{among(seed+100, least, greatest), near}, place{among(seed+200, new(big.Int), least), g.least})
	}
	return list
}

// near are patterns of binary numbers, not 0 and finite, next to twice / 2 times 10^exp: the greatest one that isn't above it, those beside that, and the next one.
func (f source) near(twice *big.Int, exp int) []*big.Int {
	low := f.below(times(twice, ten(max(exp, 0))), times(big.NewInt(2), ten(max(-exp, 0))))
	var list []*big.Int
	for more := int64(-1); more <= 2; more++ {
		if pattern := plus(low, more); pattern.Sign() > 0 && pattern.Cmp(f.infinity()) < 0 {
			list = append(list, pattern)
		}
	}
	return list
}

// P19.1: binary numbers next to decimal ones, next to the middles between these, and next to the next ones, in every direction: those too that go up to a power of ten, to the least number, and beyond the greatest one.
func TestP19_1_Between(t *testing.T) {
	each(t, func(t *testing.T, f source) {
		for _, g := range targets {
			sides, carried := map[int]int{}, 0
			for _, at := range g.edges() {
				for half := range int64(3) {
					twice := plus(new(big.Int).Lsh(at.coef, 1), half)
					for _, pattern := range f.near(twice, at.exp) {
						s, ok := f.around(t, g, pattern)
						if !ok {
							continue
						}
						sides[s.side]++
						if s.side >= middle && plus(s.coef, 1).Cmp(ten(g.precision)) == 0 {
							carried++
						}
					}
				}
			}
			// With fewer bits than a format's digits need, its numbers mostly lie far from these.
			if finer := two(f.precision).Cmp(ten(g.precision)) > 0; finer && (sides[below] < 20 || sides[above] < 20 || carried < 5) {
				t.Errorf("%d to %d: %v, %d carried", f.number, g.number, sides, carried)
			}
		}
	})
}

// halfway are patterns of numbers that lie just in the middle of two decimal ones of full length, with every exponent with which there are such: their digits are one too many, and the last one is a five.
func (f source) halfway(g target) []*big.Int {
	var list []*big.Int
	for exp := max(g.least, -70); exp < min(g.most, 110); exp++ {
		// Digits and coefficient are odd numbers, and share a factor. Below the line all fives are in the digits, as tens there; above it those of the noughts behind are in the coefficient alone.
		digits, coef := power(5, max(-exp, 1)), power(5, max(exp+1, 0))
		least := new(big.Int).Quo(ten(g.precision), digits)
		bound := new(big.Int).Quo(ten(g.precision+1), digits)
		if room := new(big.Int).Quo(two(f.precision), coef); room.Cmp(bound) < 0 {
			bound = room
		}
		if least.Cmp(bound) >= 0 {
			continue
		}
		for seed := range uint64(6) {
			odd := among(seed+uint64(exp+1000)*8, least, bound)
			odd.SetBit(odd, 0, 1)
			pattern, ok := f.holding(times(odd, coef), exp)
			if ok && len(times(odd, digits).String()) == g.precision+1 {
				list = append(list, pattern)
			}
		}
	}
	return list
}

// P19.1: numbers that lie just in the middle of two, above an even one and above an odd one, and their neighbours.
func TestP19_1_Middles(t *testing.T) {
	each(t, func(t *testing.T, f source) {
		for _, g := range targets {
			odd, even := 0, 0
			for _, pattern := range f.halfway(g) {
				s, ok := f.around(t, g, pattern)
				if !ok || s.side != middle {
					t.Errorf("%d to %d: %x isn't a middle", f.number, g.number, pattern)
					continue
				}
				if s.coef.Bit(0) == 1 {
					odd++
				} else {
					even++
				}
				for more := int64(-1); more <= 1; more += 2 {
					if beside := plus(pattern, more); beside.Sign() > 0 && beside.Cmp(f.infinity()) < 0 {
						f.around(t, g, beside)
					}
				}
			}
			// No number of Half has 35 digits.
			if none := f.number == 1 && g.precision == 34; none != (odd+even == 0) || !none && (odd < 3 || even < 3) {
				t.Errorf("%d to %d: %d middles above odd numbers, %d above even ones", f.number, g.number, odd, even)
			}
		}
	})
}

// P19.1: the middle above the greatest number of 7 digits, which Octo alone has, and its neighbours.
func TestP19_1_GreatestMiddle(t *testing.T) {
	f := sources[5]
	for _, g := range of(32) {
		pattern, ok := f.holding(times(parsed("99999995", 10), power(5, 89)), 89)
		s, within := f.around(t, g, pattern)
		if !ok || !within || s.side != middle || s.nextFlag != overflow {
			t.Errorf("%d: %x, %+v", g.number, pattern, s)
		}
		for more := int64(-1); more <= 1; more += 2 {
			f.around(t, g, plus(pattern, more))
		}
	}
}
