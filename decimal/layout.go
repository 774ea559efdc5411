package decimal

import (
	"caliper/api"
	"caliper/declet"
	"caliper/desc"
	"caliper/limbs"
)

const (
	infinite = 0b11110 // G's five highest bits of an infinity
	nan      = 0b11111 // and of a NaN
	kindBits = 5

	great     = 8 // leads from here on have but their lowest bit in G, behind the two bits that say so
	greatMark = 0b11
	markBits  = 2
	leadBits  = 3 // bits of a lead that isn't great

	decletBits = 10
)

// wide is a pattern as layer 1 takes it.
type wide = [4]uint64

// layout is where the fields of a format's patterns stand, and what they hold. The lead is the part of a coefficient that stands in G, from 0 to 9 in all formats: the bits above T of a plain pattern (three, or 1 0 0 and one more), the first digit of a dense one.
type layout struct {
	dense       bool
	g, t        int  // how many bits G and T have: the sign stands above G, G above T
	below       int  // how many of the exponent field's bits stand in G below the lead
	worth       wide // what the lead counts in a coefficient
	coefs       wide // coefficients are below this
	payloads    wide // payloads are below this
	least, most int
}

// layoutOf is a decimal format's layout: ErrArg if the format is none.
func layoutOf(format int) (layout, api.Errno) {
	info, errno := desc.Of(format)
	if errno != api.OK || info.Base != 10 {
		return layout{}, api.ErrArg
	}
	g := info.Width/16 + 9
	l := layout{
		dense:    info.Dense,
		g:        g,
		t:        info.Width - 1 - g,
		coefs:    ten(info.Precision),
		payloads: ten(info.Payload),
		least:    info.Least,
		most:     info.Most,
	}
	if l.dense {
		l.below = g - kindBits
		l.worth = ten(info.Precision - 1)
	} else {
		l.worth = limbs.Shl(limbs.Of[wide](1), l.t)
	}
	return l, api.OK
}

// layoutFor is the layout of a decimal format's pattern: ErrArg if the format is none, or the pattern too wide for it.
func layoutFor(format int, b api.Bits) (layout, api.Errno) {
	if !desc.Fits(format, b) {
		return layout{}, api.ErrArg
	}
	return layoutOf(format)
}

// ten is 10^n.
func ten(n int) wide {
	power := limbs.Of[wide](1)
	for range n {
		power, _ = limbs.Mul(power, 10)
	}
	return power
}

// low is the lowest so many bits of n.
func low(n uint64, count int) uint64 { return n & (1<<count - 1) }

// split cuts a pattern into its fields.
func (l layout) split(b api.Bits) (sign bool, g uint64, t wide) {
	above := limbs.Shr(wide(b), l.t)
	t, _ = limbs.Sub(wide(b), limbs.Shl(above, l.t))
	return limbs.Bit(above, l.g) == 1, low(above[0], l.g), t
}

// join puts a pattern's fields together.
func (l layout) join(sign bool, g uint64, t wide) api.Bits {
	if sign {
		g |= 1 << l.g
	}
	b, _ := limbs.Add(limbs.Shl(limbs.Of[wide](g), l.t), t)
	return api.Bits(b)
}

// kind is G's five highest bits.
func (l layout) kind(g uint64) uint64 { return g >> (l.g - kindBits) }

// signals says whether the bit behind the five is 1.
func (l layout) signals(g uint64) bool { return g>>(l.g-kindBits-1)&1 == 1 }

// special is the G of an infinity or a NaN.
func (l layout) special(kind uint64, signal bool) uint64 {
	g := kind << 1
	if signal {
		g |= 1
	}
	return g << (l.g - kindBits - 1)
}

// part cuts the G of a finite number into the exponent field and the lead.
func (l layout) part(g uint64) (field, lead uint64) {
	above := g >> l.below
	if g>>(l.g-markBits) == greatMark {
		above = low(above, l.g-markBits-l.below)
		field, lead = above>>1, great+low(above, 1)
	} else {
		field, lead = above>>leadBits, low(above, leadBits)
	}
	return field<<l.below | low(g, l.below), lead
}

// unite undoes part.
func (l layout) unite(field, lead uint64) uint64 {
	above := field >> l.below
	if lead >= great {
		above = greatMark<<(l.g-markBits-l.below) | above<<1 | low(lead, 1)
	} else {
		above = above<<leadBits | lead
	}
	return above<<l.below | low(field, l.below)
}

// read is the number that T means.
func (l layout) read(t wide) wide {
	if !l.dense {
		return t
	}
	n, _ := declet.Unpack(api.Bits(t), l.t/decletBits)
	return wide(n)
}

// write is the T that means n, for which it has room.
func (l layout) write(n wide) wide {
	if !l.dense {
		return n
	}
	t, _ := declet.Pack(api.Bits(n), l.t/decletBits)
	return wide(t)
}
