package convert_test

import (
	"fmt"
	"math/big"
	"strconv"
	"strings"

	"caliper/api"
)

// laid is the pattern of coef times 2^exp, which is the binary format's.
func (f format) laid(coef *big.Int, exp int) *big.Int {
	return new(big.Int).Add(new(big.Int).Lsh(big.NewInt(int64(exp-f.least)), uint(f.precision-1)), coef)
}

// signed is a pattern, that has no sign, with one or without.
func (f format) signed(pattern *big.Int, sign bool) api.Bits {
	if sign {
		pattern = new(big.Int).Or(pattern, two(f.width-1))
	}
	return toBits(pattern)
}

// negated is a pattern with its highest bit turned.
func (f format) negated(b api.Bits) api.Bits {
	b[(f.width-1)/64] ^= 1 << ((f.width - 1) % 64)
	return b
}

// with is a pattern with more bits set.
func with(b api.Bits, more *big.Int) api.Bits {
	return toBits(new(big.Int).Or(toBig(b), more))
}

// infinity is the canonical pattern of an infinity.
func (f format) infinity(sign bool) api.Bits {
	if f.base == 2 {
		return f.signed(f.top(), sign)
	}
	return f.signed(parsed("11110"+noughts(f.width-6), 2), sign)
}

// nan is the canonical pattern of a NaN. A binary one that signals has a payload that isn't 0.
func (f format) nan(sign, signal bool, payload *big.Int) api.Bits {
	pattern := new(big.Int)
	switch {
	case f.base == 2 && signal:
		pattern.Add(f.top(), payload)
	case f.base == 2:
		pattern.Add(f.top(), two(f.precision-2)).Add(pattern, payload)
	case signal:
		pattern = parsed("111111"+noughts(f.g-6)+f.rest(payload), 2)
	default:
		pattern = parsed("111110"+noughts(f.g-6)+f.rest(payload), 2)
	}
	return f.signed(pattern, sign)
}

// finite is the canonical pattern of coef times two or ten to the power of exp, which is the format's.
func (f format) finite(sign bool, coef *big.Int, exp int) api.Bits {
	if f.base == 2 {
		return f.signed(f.laid(coef, exp), sign)
	}
	worth := two(f.t)
	if f.dense {
		worth = ten(f.precision - 1)
	}
	lead, rest := new(big.Int).DivMod(coef, worth, new(big.Int))
	return f.signed(parsed(f.combined(exp, int(lead.Int64()))+f.rest(rest), 2), sign)
}

// combined is G with an exponent and what stands ahead of T: the bits as a number, or the digit.
func (f format) combined(exp, lead int) string {
	field := fmt.Sprintf("%0*b", f.g-3, exp-f.least)
	three, one := fmt.Sprintf("%03b", lead), strconv.Itoa(lead%2)
	switch {
	case !f.dense && lead < 8:
		return field + three
	case !f.dense:
		return "11" + field + one
	case lead < 8:
		return field[:2] + three + field[2:]
	}
	return "11" + field[:2] + one + field[2:]
}

// rest is the T of a number.
func (f format) rest(n *big.Int) string {
	if !f.dense {
		return fmt.Sprintf("%0*b", f.t, n)
	}
	text, t := fmt.Sprintf("%0*d", 3*f.declets, n), ""
	for ; text != ""; text = text[3:] {
		n, _ := strconv.Atoi(text[:3])
		t += written(n)
	}
	return t
}

// digits is the pattern of a decimal number of some digits.
func (f format) digits(sign bool, digits string, exp int) api.Bits {
	return f.finite(sign, parsed(digits, 10), exp)
}

// nought is the pattern of a 0: a decimal one has the exponent nearest to the wanted one.
func (f format) nought(sign bool, want int) api.Bits {
	if f.base == 2 {
		want = f.least
	}
	return f.finite(sign, new(big.Int), min(max(want, f.least), f.most))
}

// full is the greatest coefficient of a format.
func (f format) full() *big.Int { return plus(power(f.base, f.precision), -1) }

// normal is the least coefficient of full length.
func (f format) normal() *big.Int { return power(f.base, f.precision-1) }

// greatest is the pattern of the greatest finite number.
func (f format) greatest(sign bool) api.Bits { return f.finite(sign, f.full(), f.most) }

// tiniest is the pattern of the least number above 0.
func (f format) tiniest(sign bool) api.Bits { return f.finite(sign, big.NewInt(1), f.least) }

// payloads are payloads of a format: 0, small ones, the greatest ones and some of one bit, or digit.
func (f format) payloads() []*big.Int {
	list := []*big.Int{new(big.Int), big.NewInt(1), big.NewInt(2), big.NewInt(3)}
	for place := 3; place < f.room(); place += 1 + f.room()/6 {
		list = append(list, power(f.base, place))
	}
	return append(list, plus(power(f.base, f.room()), -2), plus(power(f.base, f.room()), -1))
}

// nans are NaNs of both signs that signal and that don't, with those payloads that the format has.
func (f format) nans(payloads []*big.Int) []api.Bits {
	var list []api.Bits
	for _, payload := range payloads {
		if payload.Cmp(power(f.base, f.room())) >= 0 {
			continue
		}
		for _, sign := range signs {
			list = append(list, f.nan(sign, false, payload))
			if f.base == 10 || payload.Sign() > 0 {
				list = append(list, f.nan(sign, true, payload))
			}
		}
	}
	return list
}

// sizes are finite patterns without sign at the format's edges.
func (f format) sizes() []api.Bits {
	if f.base == 2 {
		return f.binarySizes()
	}
	var list []api.Bits
	for _, exp := range f.exps() {
		for _, coef := range f.coefs() {
			list = append(list, f.finite(false, coef, exp))
		}
	}
	return list
}

// binarySizes are 0, the least numbers, those about the least one of full length, about one, about powers of two, and the greatest ones.
func (f format) binarySizes() []api.Bits {
	p := uint(f.precision - 1)
	one, bound := f.laid(two(f.precision-1), 1-f.precision), f.top()
	var list []api.Bits
	for more := range int64(4) {
		for _, n := range []*big.Int{big.NewInt(more), plus(two(f.precision-1), more-2), plus(one, more-2), plus(bound, -1-more)} {
			list = append(list, toBits(n))
		}
	}
	fields := new(big.Int).Rsh(bound, p).Int64()
	for _, field := range []int64{2, 3, fields / 4, fields/2 - 2, fields/2 + 4, fields/2 + 8, fields - fields/4, fields - 2} {
		for more := int64(-1); more <= 1; more++ {
			list = append(list, toBits(plus(new(big.Int).Lsh(big.NewInt(field), p), more)))
		}
	}
	for place := 2; place < f.width-1; place += 1 + f.width/16 {
		list = append(list, toBits(two(place)))
	}
	return list
}

// exps are a decimal format's exponents at both bounds, about 0 and 1 with all digits, and where the field's two highest bits change.
func (f format) exps() []int {
	third := (f.most - f.least + 1) / 3
	return []int{f.least, f.least + 1, f.least + third, 1 - f.precision, -f.precision, -1, 0, 1, f.least + 2*third, f.most + 1 - f.precision, f.most}
}

// coefs are a decimal format's coefficients: 0, small ones, powers of ten and of two and those beside them, those about which a plain pattern changes its shape, and the greatest ones.
func (f format) coefs() []*big.Int {
	list := []*big.Int{new(big.Int), big.NewInt(1), big.NewInt(2), big.NewInt(9), big.NewInt(10), big.NewInt(11)}
	for more := int64(-1); more <= 1; more++ {
		list = append(list, plus(f.normal(), more))
	}
	list = append(list, two(f.t-1), times(big.NewInt(8), f.normal()), plus(two(f.t+3), -1), ten(f.precision/2))
	if eighth := two(f.t + 3); eighth.Cmp(ten(f.precision)) < 0 {
		list = append(list, eighth)
	}
	return append(list, plus(f.full(), -1), f.full())
}

// edges are patterns of all kinds without sign, all canonical.
func (f format) edges() []api.Bits {
	return append(f.sizes(), f.infinity(false))
}

// strange are patterns of a decimal format that aren't canonical, each behind the one that means the same: coefficients and payloads that are too great, declets of no number, bits that mean nothing.
func (f format) strange() [][2]api.Bits {
	var list [][2]api.Bits
	for _, sign := range signs {
		infinity, idle := f.infinity(sign), plus(two(f.width-6), -1)
		list = append(list, [2]api.Bits{infinity, with(infinity, idle)}, [2]api.Bits{infinity, with(infinity, big.NewInt(1))})
		for _, payload := range f.payloads() {
			for _, signal := range signs {
				nan := f.nan(sign, signal, payload)
				list = append(list, [2]api.Bits{nan, with(nan, two(f.t))}, [2]api.Bits{nan, with(nan, two(f.width-8))})
			}
		}
		if f.dense {
			list = append(list, f.strangeDeclets(sign)...)
		} else {
			list = append(list, f.tooGreat(sign)...)
		}
	}
	return list
}

// strangeDeclets are coefficients and payloads in which a declet of no number stands, at every place.
func (f format) strangeDeclets(sign bool) [][2]api.Bits {
	var list [][2]api.Bits
	for i, other := range others {
		ahead, behind := 10*(i%f.declets), 10*(f.declets-1-i%f.declets)
		other = noughts(ahead) + other + noughts(behind)
		own := noughts(ahead) + written(declets[others[i]]) + noughts(behind)
		head := f.combined(f.exps()[i%len(f.exps())], i%10)
		if i%4 == 0 {
			head = "11111" + strconv.Itoa(i/4%2) + noughts(f.g-6)
		}
		list = append(list, [2]api.Bits{f.signed(parsed(head+own, 2), sign), f.signed(parsed(head+other, 2), sign)})
	}
	return list
}

// tooGreat are coefficients that count as 0, and payloads that do.
func (f format) tooGreat(sign bool) [][2]api.Bits {
	var list [][2]api.Bits
	greatest := plus(two(f.t+1), -1)
	for i, exp := range f.exps() {
		head := "11" + fmt.Sprintf("%0*b", f.g-3, exp-f.least)
		for _, tail := range []*big.Int{greatest, plus(greatest, -int64(i)), new(big.Int).Sub(ten(f.precision), two(f.t+3))} {
			if tail.Sign() >= 0 {
				list = append(list, [2]api.Bits{f.nought(sign, exp), f.signed(parsed(head+fmt.Sprintf("%0*b", f.t+1, tail), 2), sign)})
			}
		}
	}
	for _, payload := range []*big.Int{ten(f.precision - 1), plus(ten(f.precision-1), 1), plus(two(f.t), -1)} {
		for _, signal := range signs {
			nought := f.nan(sign, signal, new(big.Int))
			list = append(list, [2]api.Bits{nought, with(nought, payload)})
		}
	}
	return list
}

// members are the patterns of a cohort's members without sign: those of coef times 10^exp, with one exponent after the other, from the greatest one down.
func (f format) members(coef *big.Int, exp int) []api.Bits {
	digits := strings.TrimRight(coef.String(), "0")
	exp += len(coef.String()) - len(digits)
	var list []api.Bits
	for more := range f.precision - len(digits) + 1 {
		if exp-more >= f.least && exp-more <= f.most {
			list = append(list, f.digits(false, digits+noughts(more), exp-more))
		}
	}
	return list
}

// drawn is a pattern that follows from the seed alone. Of three seeds out of four some of the highest bits behind the sign are set, so that there are enough of great numbers and of what isn't finite.
func (f format) drawn(seed uint64) api.Bits {
	draw := new(big.Int).Rsh(scattered(seed), uint(256-f.width))
	ones := []int{0, 2, 4, 5}[seed%4]
	if f.base == 2 && ones == 5 {
		ones = f.width - f.precision
	}
	for place := range ones {
		draw.SetBit(draw, f.width-2-place, 1)
	}
	return toBits(draw)
}

// near is a drawn number about one, which most formats have room for.
func (f format) near(seed uint64) api.Bits {
	if f.base == 2 {
		size := f.laid(f.normal(), within(seed, -20, 20)+1-f.precision)
		if f.number == api.Half {
			size = f.laid(f.normal(), within(seed, -13, 15)+1-f.precision)
		}
		return f.signed(size.Add(size, among(seed+1, new(big.Int), f.normal())), seed%2 == 1)
	}
	digits := within(seed, 1, f.precision)
	return f.finite(seed%2 == 1, among(seed+1, ten(digits-1), ten(digits)), within(seed+2, -15, 15)-digits)
}

// tiny is a drawn number that isn't of full length.
func (f format) tiny(seed uint64) api.Bits {
	return f.finite(seed%2 == 1, among(seed+1, big.NewInt(1), f.normal()), f.least)
}
