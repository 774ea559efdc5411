package native_test

import "math"

// doubles are patterns of Double, with both signs: 0, the least number that isn't normal and the greatest, the least normal one, 1 and its neighbours, the greatest finite number, the infinity, quiet and signalling NaNs with payloads of every kind; those of Single that are widened by their bits, and their neighbours; single bits, all bits below a place and all above it.
func doubles() []uint64 {
	list := []uint64{
		0, 1, 2, 1<<52 - 1, 1 << 52, 1<<52 + 1,
		0x3fefffffffffffff, 0x3ff0000000000000, 0x3ff0000000000001,
		0x7feffffffffffffe, 0x7fefffffffffffff, 0x7ff0000000000000,
		0x7ff8000000000000, 0x7ff8000000000001, 0x7ff80000003fffff, 0x7ff8000000400000, 0x7ff8000020000000, 0x7ffffffffffffffe, 0x7fffffffffffffff,
		0x7ff0000000000001, 0x7ff0000000000002, 0x7ff00000003fffff, 0x7ff0000000400000, 0x7ff0000020000000, 0x7ff7ffffffffffff,
	}
	for _, b := range singles() {
		if wide := math.Float64bits(float64(math.Float32frombits(b))); wide<<1 != 0 && wide<<1>>1 < 0x7ff0000000000000 {
			list = append(list, wide-1, wide, wide+1)
		}
	}
	for n := range 63 {
		list = append(list, 1<<n, 1<<n-1, 1<<63-1<<n)
	}
	return bothSigns(list, 1<<63)
}

// singles are patterns of Single, of the same kinds.
func singles() []uint32 {
	list := []uint32{
		0, 1, 2, 1<<23 - 1, 1 << 23, 1<<23 + 1,
		0x3f7fffff, 0x3f800000, 0x3f800001,
		0x7f7ffffe, 0x7f7fffff, 0x7f800000,
		0x7fc00000, 0x7fc00001, 0x7ffffffe, 0x7fffffff,
		0x7f800001, 0x7f800002, 0x7fbfffff,
	}
	for n := range 31 {
		list = append(list, 1<<n, 1<<n-1, 1<<31-1<<n)
	}
	return bothSigns(list, 1<<31)
}

// bothSigns are the patterns of a list, without the sign's bit and with it.
func bothSigns[T uint32 | uint64](list []T, sign T) []T {
	var both []T
	for _, b := range list {
		both = append(both, b&^sign, b|sign)
	}
	return both
}

// around are a number and its neighbours up to three beside it, with both signs.
func around(n uint64) []int64 {
	var list []int64
	for more := int64(-3); more <= 3; more++ {
		// The word 2^63, beyond int64, comes round to the least of all, which is that with the sign.
		list = append(list, int64(n)+more, -(int64(n) + more))
	}
	return list
}

// wholes are whole numbers: those about 0, about each power of two and about the bounds of int64, those about the middles of two neighbouring numbers of a format, and drawn ones of every length.
func (f format) wholes() []int64 {
	list := around(0)
	for n := range 64 {
		list = append(list, around(1<<n)...)
		for seed := range uint64(20) {
			drawn := int64(scattered(seed<<8+uint64(n)) >> n)
			list = append(list, drawn, -drawn)
		}
	}
	for _, n := range f.middles() {
		list = append(list, around(n)...)
	}
	return append(list, math.MinInt64, math.MaxInt64)
}

// middles are whole numbers in the middle of two neighbouring ones of a format, above even ones and odd ones, just above a power of two and just below the next one: at every exponent by which a word has them.
func (f format) middles() []uint64 {
	var list []uint64
	for place := 1; place < 63-f.precision+1; place++ {
		least := uint64(1) << (f.precision - 1)
		for i, coef := range []uint64{least, least + 1, least + 2, 2*least - 2, 2*least - 1, 0, 0} {
			if coef == 0 {
				coef = least + scattered(uint64(place*8+i))%least
			}
			list = append(list, (2*coef+1)<<(place-1))
		}
	}
	return list
}
