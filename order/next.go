package order

import (
	"caliper/api"
	"caliper/binary"
	"caliper/desc"
	"caliper/limbs"
)

// Next is the pattern of the next greater number of a binary format, or of the next less one, and the flags, which only a NaN that signals raises: ErrNone if the format is decimal.
func Next(number int, b api.Bits, up bool) (api.Bits, int, api.Errno) {
	from, errno := unpack(number, b)
	if errno != api.OK {
		return api.Bits{}, 0, errno
	}
	switch {
	case from.base != 2:
		return api.Bits{}, 0, api.ErrNone
	case from.Class == api.NaN:
		return quiet(number, b, from.Signal)
	case from.nought():
		return smallest(number, !up), 0, api.OK
	}
	return step(b, from, up), 0, api.OK
}

// quiet is a NaN's pattern as one that doesn't signal, and the flags.
func quiet(number int, b api.Bits, signals bool) (api.Bits, int, api.Errno) {
	flags := 0
	if signals {
		flags = api.Invalid
	}
	b, errno := binary.Quiet(number, b)
	return b, flags, errno
}

// smallest is the number of that sign nearest to 0.
func smallest(number int, sign bool) api.Bits {
	info, _ := desc.Of(number)
	b, _ := binary.Pack(number, api.Datum{Class: api.Finite, Sign: sign, Exp: info.Least, Coef: api.Bits{1}})
	return b
}

// step is the neighbour of a number that isn't 0. Patterns of one sign rise with their numbers' sizes, from 0 to the infinity, so it is one more or one less, and the sign stays.
func step(b api.Bits, from operand, up bool) api.Bits {
	pattern, one := [4]uint64(b), limbs.Of[[4]uint64](1)
	switch {
	case up == from.Sign:
		pattern, _ = limbs.Sub(pattern, one)
	case from.Class != api.Infinite:
		pattern, _ = limbs.Add(pattern, one)
	}
	return api.Bits(pattern)
}
