package native_test

import (
	"math"
	"math/big"
	"strings"

	"caliper/api"
)

const (
	invalid   = api.Invalid
	inexact   = api.Inexact
	underflow = api.Underflow + api.Inexact
	overflow  = api.Overflow + api.Inexact
)

// format is what DOC.md says of a binary format, worked out by hand. A whole number is never below its numbers of full precision.
type format struct {
	number, width, precision, greatest int
}

var formats = []format{
	{1, 16, 11, 15},
	{2, 16, 8, 127},
	{3, 32, 24, 127},
	{4, 64, 53, 1023},
	{5, 128, 113, 16383},
	{6, 256, 241, 16383},
}

var directions = []int{api.Even, api.Away, api.Zero, api.Up, api.Down}

var signs = []bool{false, true}

// two is 2^n.
func two(n int) *big.Int { return new(big.Int).Lsh(big.NewInt(1), uint(n)) }

// plus is n and so many more.
func plus(n *big.Int, more int64) *big.Int { return new(big.Int).Add(n, big.NewInt(more)) }

// infinity is the pattern of plus infinity.
func (f format) infinity() *big.Int { return new(big.Int).Sub(two(f.width-1), two(f.precision-1)) }

// signed is a pattern with the sign's bit.
func (f format) signed(pattern *big.Int, sign bool) api.Bits {
	if sign {
		pattern = new(big.Int).Or(pattern, two(f.width-1))
	}
	var b api.Bits
	for i := range b {
		b[i] = new(big.Int).Rsh(pattern, uint(64*i)).Uint64()
	}
	return b
}

// outward says whether a direction goes away from 0, whatever lies near.
func outward(direction int, sign bool) bool {
	return direction == api.Up && !sign || direction == api.Down && sign
}

// farther says whether the neighbour farther from 0 is taken, of a number whose binary digits are those kept, and the rest behind them.
func farther(direction int, sign bool, kept, rest string) bool {
	if strings.Trim(rest, "0") == "" {
		return false
	}
	switch direction {
	case api.Away:
		return rest[0] == '1'
	case api.Even:
		middle := "1" + strings.Repeat("0", len(rest)-1)
		return rest > middle || rest == middle && strings.HasSuffix(kept, "1")
	}
	return outward(direction, sign)
}

// whole is what a whole number is rounded to, and the flags. It goes by the number's binary digits as a text, and shares no code with the package.
func (f format) whole(direction int, n int64) (api.Bits, int) {
	if n == 0 {
		return api.Bits{}, 0
	}
	sign := n < 0
	digits := new(big.Int).Abs(big.NewInt(n)).Text(2)
	if len(digits)-1 > f.greatest {
		return f.beyond(direction, sign)
	}
	kept := digits + strings.Repeat("0", max(0, f.precision-len(digits)))
	kept, rest := kept[:f.precision], kept[f.precision:]
	// The first digit, which is 1, isn't written: it makes the exponent one more.
	pattern, _ := new(big.Int).SetString(kept, 2)
	pattern.Add(pattern, new(big.Int).Lsh(big.NewInt(int64(f.greatest+len(digits)-2)), uint(f.precision-1)))
	if farther(direction, sign, kept, rest) {
		pattern = plus(pattern, 1)
	}
	switch {
	case pattern.Cmp(f.infinity()) >= 0:
		return f.beyond(direction, sign)
	case strings.Trim(rest, "0") == "":
		return f.signed(pattern, sign), 0
	}
	return f.signed(pattern, sign), inexact
}

// beyond is what a number comes to that overflows, and the flags.
func (f format) beyond(direction int, sign bool) (api.Bits, int) {
	if direction == api.Even || direction == api.Away || outward(direction, sign) {
		return f.signed(f.infinity(), sign), overflow
	}
	return f.signed(plus(f.infinity(), -1), sign), overflow
}

// narrowed is the pattern of Single that a pattern of Double comes to, and the flags: of a number by the language's own conversion, of a NaN by its bits.
func narrowed(b uint64) (uint32, int) {
	f := math.Float64frombits(b)
	if math.IsNaN(f) {
		return stilled(b)
	}
	own := float32(f)
	switch {
	case float64(own) == f:
		return math.Float32bits(own), 0
	case math.IsInf(float64(own), 0):
		return math.Float32bits(own), overflow
	case math.Abs(f) < 0x1p-126:
		return math.Float32bits(own), underflow
	}
	return math.Float32bits(own), inexact
}

// stilled is what a NaN's pattern of Double comes to, and the flags.
func stilled(b uint64) (uint32, int) {
	nan := uint32(b>>63<<31) | 0x7fc00000
	if payload := b & (1<<51 - 1); payload < 1<<22 {
		nan |= uint32(payload)
	}
	if b>>51&1 == 0 {
		return nan, invalid
	}
	return nan, 0
}

// scattered is a word that follows from its seed alone.
func scattered(seed uint64) uint64 {
	seed = (seed + 1) * 0x9e3779b97f4a7c15
	word := (seed ^ seed>>30) * 0xbf58476d1ce4e5b9
	word = (word ^ word>>27) * 0x94d049bb133111eb
	return word ^ word>>31
}
