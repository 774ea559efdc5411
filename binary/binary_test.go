package binary_test

import (
	"fmt"
	"math"
	"math/big"
	"testing"

	"caliper/api"
	"caliper/binary"
)

// format is what DOC.md says of a binary format, worked out by hand.
type format struct {
	number, width, precision, exponent, least, most int
}

var formats = []format{
	{1, 16, 11, 5, -24, 5},
	{2, 16, 8, 8, -133, 120},
	{3, 32, 24, 8, -149, 104},
	{4, 64, 53, 11, -1074, 971},
	{5, 128, 113, 15, -16494, 16271},
	{6, 256, 241, 15, -16622, 16143},
}

// others are numbers of formats that aren't binary, and numbers of none.
var others = []int{7, 8, 9, 10, 11, 12, 0, 13, -1, -3, -12, 16, 257, 1<<32 + 3, -1 << 32, math.MinInt, math.MinInt + 4, math.MaxInt}

// toBig brings math/big in as the oracle: it shares no code with the package.
func toBig(b api.Bits) *big.Int {
	sum := new(big.Int)
	for i := len(b) - 1; i >= 0; i-- {
		sum.Or(sum.Lsh(sum, 64), new(big.Int).SetUint64(b[i]))
	}
	return sum
}

func toBits(n *big.Int) api.Bits {
	var b api.Bits
	for i := range b {
		b[i] = new(big.Int).Rsh(n, uint(64*i)).Uint64()
	}
	return b
}

// power is 2^n, and less so many.
func power(n int, less int64) api.Bits {
	sum := new(big.Int).Lsh(big.NewInt(1), uint(n))
	return toBits(sum.Sub(sum, big.NewInt(less)))
}

// pattern is put together from its fields.
func (f format) pattern(sign bool, exponent int, fraction api.Bits) api.Bits {
	text := fmt.Sprintf("0%0*b%0*b", f.exponent, exponent, f.precision-1, toBig(fraction))
	if sign {
		text = "1" + text[1:]
	}
	n, ok := new(big.Int).SetString(text, 2)
	if !ok || len(text) != f.width {
		panic(text)
	}
	return toBits(n)
}

// meaning goes by the chapter's words, over the pattern's bits as a text.
func (f format) meaning(b api.Bits) api.Datum {
	text := fmt.Sprintf("%0*b", f.width, toBig(b))
	field := func(digits string) *big.Int {
		n, _ := new(big.Int).SetString(digits, 2)
		return n
	}
	exponent, fraction := text[1:1+f.exponent], text[1+f.exponent:]
	d := api.Datum{Class: api.Finite, Sign: text[0] == '1'}
	e := int(field(exponent).Int64())
	switch {
	case e == 1<<f.exponent-1 && field(fraction).Sign() == 0:
		d.Class = api.Infinite
	case e == 1<<f.exponent-1:
		d.Class, d.Signal, d.Coef = api.NaN, fraction[0] == '0', toBits(field(fraction[1:]))
	case e == 0:
		d.Exp, d.Coef = f.least, toBits(field(fraction))
	default:
		d.Exp, d.Coef = f.least-1+e, toBits(field("1"+fraction))
	}
	return d
}

// has goes by the chapter's words on whose a datum is.
func (f format) has(d api.Datum) bool {
	below := func(n int) bool { return toBig(d.Coef).BitLen() <= n }
	none := toBig(d.Coef).Sign() == 0
	switch d.Class {
	case api.Finite:
		return !d.Signal && below(f.precision) && d.Exp >= f.least && d.Exp <= f.most && (!below(f.precision-1) || d.Exp == f.least)
	case api.Infinite:
		return !d.Signal && none && d.Exp == 0
	case api.NaN:
		return d.Exp == 0 && below(f.precision-2) && !(none && d.Signal)
	}
	return false
}

// scattered is a pattern that follows from its seed alone.
func scattered(seed uint64) api.Bits {
	var b api.Bits
	for i := range b {
		seed += 0x9e3779b97f4a7c15
		word := (seed ^ seed>>30) * 0xbf58476d1ce4e5b9
		word = (word ^ word>>27) * 0x94d049bb133111eb
		b[i] = word ^ word>>31
	}
	return b
}

// fractions are a field's edges, each bit alone and all below it, and scattered ones.
func (f format) fractions() []api.Bits {
	list := []api.Bits{{}, power(f.precision-1, 1), power(f.precision-1, 2)}
	for n := range f.precision - 1 {
		list = append(list, power(n, 0), power(n, 1))
	}
	for seed := range uint64(40) {
		list = append(list, toBits(new(big.Int).Rsh(toBig(scattered(seed)), uint(257-f.precision))))
	}
	return list
}

// patterns are all of a format of 16 bits; of the wider ones the edges of each field and many others.
func (f format) patterns() []api.Bits {
	var list []api.Bits
	if f.width == 16 {
		for n := range uint64(1 << 16) {
			list = append(list, api.Bits{n})
		}
		return list
	}
	special := 1<<f.exponent - 1
	for _, sign := range []bool{false, true} {
		for _, exponent := range []int{0, 1, 2, special / 2, special/2 + 1, special - 2, special - 1, special} {
			for _, fraction := range f.fractions() {
				list = append(list, f.pattern(sign, exponent, fraction))
			}
		}
	}
	for seed := range uint64(3000) {
		list = append(list, toBits(new(big.Int).Rsh(toBig(scattered(seed)), uint(256-f.width))))
	}
	return list
}

// tooWide are patterns with bits beyond the width; Octo has none.
func (f format) tooWide() []api.Bits {
	var list []api.Bits
	for n := f.width; n < 256; n++ {
		list = append(list, power(n, 0))
		low := power(n, 0)
		low[0] |= 0x3c00
		list = append(list, low)
	}
	if f.width < 256 {
		list = append(list, power(256, 1), power(f.width+1, 1))
	}
	return list
}

// coefs are the edges that the chapter has, and bits in the highest words.
func (f format) coefs() []api.Bits {
	list := []api.Bits{{}, {1}, {2}, {3}, {0, 0, 0, 1}, {0, 0, 0, 1 << 63}, {1, 0, 0, 1 << 48}, {0, 1}, {0, 0, 1}, power(256, 1)}
	for _, n := range []int{f.precision - 3, f.precision - 2, f.precision - 1, f.precision, f.precision + 1} {
		list = append(list, power(n, 1), power(n, 0), power(n, -1))
	}
	return list
}

// exps are the edges that the chapter has, those of int, and such as come out in range if they are cut to fewer bits.
func (f format) exps() []int {
	return []int{
		f.least - 1, f.least, f.least + 1, f.most - 1, f.most, f.most + 1, -1, 0, 1,
		f.least + 1<<32, f.most - 1<<32, f.least + 1<<16, f.most - 1<<16, f.least - f.precision, f.most + f.precision,
		math.MinInt, math.MinInt + 1, math.MaxInt - 1, math.MaxInt,
	}
}

// data are all that can be made of these, most of them no format's.
func (f format) data() []api.Datum {
	var list []api.Datum
	for _, class := range []int{0, 1, 2, 3, 4, -1, 1<<32 + 1, 255, math.MinInt, math.MaxInt} {
		for _, exp := range f.exps() {
			for _, coef := range f.coefs() {
				for _, both := range []int{0, 1, 2, 3} {
					list = append(list, api.Datum{Class: class, Sign: both&1 == 1, Signal: both&2 == 2, Exp: exp, Coef: coef})
				}
			}
		}
	}
	return list
}

// P5.1: what each pattern means.
func TestUnpack(t *testing.T) {
	for _, f := range formats {
		for _, b := range f.patterns() {
			if got, e := binary.Unpack(f.number, b); got != f.meaning(b) || e != api.OK {
				t.Errorf("Unpack(%d, %x): %+v, %v; want %+v", f.number, b, got, e, f.meaning(b))
			}
		}
	}
}

// P5.1: the pattern of each datum that is the format's, ErrRange for each that isn't.
func TestPack(t *testing.T) {
	for _, f := range formats {
		packed := 0
		for _, d := range f.data() {
			got, e := binary.Pack(f.number, d)
			if !f.has(d) {
				if got != (api.Bits{}) || e != api.ErrRange {
					t.Errorf("Pack(%d, %+v): %x, %v", f.number, d, got, e)
				}
				continue
			}
			packed++
			if e != api.OK || toBig(got).BitLen() > f.width || f.meaning(got) != d {
				t.Errorf("Pack(%d, %+v): %x, %v", f.number, d, got, e)
			}
		}
		if packed < 80 {
			t.Errorf("only %d data are those of %d", packed, f.number)
		}
	}
}

// P5.3: Pack undoes Unpack for every pattern.
func TestThereAndBack(t *testing.T) {
	for _, f := range formats {
		for _, b := range f.patterns() {
			d, _ := binary.Unpack(f.number, b)
			if got, e := binary.Pack(f.number, d); got != b || e != api.OK {
				t.Errorf("%d: %x is %+v is %x, %v", f.number, b, d, got, e)
			}
		}
	}
}

// P5.3: Unpack undoes Pack for every datum of the format.
func TestBackAndThere(t *testing.T) {
	for _, f := range formats {
		for _, d := range f.data() {
			if !f.has(d) {
				continue
			}
			b, _ := binary.Pack(f.number, d)
			if got, e := binary.Unpack(f.number, b); got != d || e != api.OK {
				t.Errorf("%d: %+v is %x is %+v, %v", f.number, d, b, got, e)
			}
		}
	}
}

// P5.2: Quiet sets a NaN's highest bit of the fraction, and leaves all else.
func TestQuiet(t *testing.T) {
	for _, f := range formats {
		signalled := 0
		for _, b := range f.patterns() {
			want := b
			if d := f.meaning(b); d.Class == api.NaN {
				want = toBits(toBig(b).SetBit(toBig(b), f.precision-2, 1))
				if d.Signal {
					signalled++
				}
			}
			if got, e := binary.Quiet(f.number, b); got != want || e != api.OK {
				t.Errorf("Quiet(%d, %x): %x, %v", f.number, b, got, e)
			}
		}
		if signalled == 0 {
			t.Errorf("no NaN of %d signalled", f.number)
		}
	}
}

// P5.1: the greatest finite numbers, with both signs.
func TestLargest(t *testing.T) {
	for i, want := range []api.Bits{
		{0x7bff},
		{0x7f7f},
		{0x7f7fffff},
		{0x7fefffffffffffff},
		{all, 0x7ffeffffffffffff},
		{all, all, all, 0x7ffeffffffffffff},
	} {
		f := formats[i]
		if got, e := binary.Largest(f.number, false); got != want || e != api.OK {
			t.Errorf("Largest(%d, false): %x, %v", f.number, got, e)
		}
		want[(f.width-1)/64] |= 1 << ((f.width - 1) % 64)
		got, e := binary.Largest(f.number, true)
		if got != want || e != api.OK {
			t.Errorf("Largest(%d, true): %x, %v", f.number, got, e)
		}
		if d := f.meaning(got); d != (api.Datum{Class: api.Finite, Sign: true, Exp: f.most, Coef: power(f.precision, 1)}) {
			t.Errorf("Largest(%d, true) is %+v", f.number, d)
		}
	}
}

// R5, R6: what is no binary format is ErrArg, whatever else is wrong.
func TestOtherFormats(t *testing.T) {
	for _, number := range others {
		for _, b := range []api.Bits{{}, {1}, {0x7f800001}, power(256, 1), {0, 0, 0, 1 << 63}} {
			if got, e := binary.Unpack(number, b); got != (api.Datum{}) || e != api.ErrArg {
				t.Errorf("Unpack(%d, %x): %+v, %v", number, b, got, e)
			}
			if got, e := binary.Quiet(number, b); got != (api.Bits{}) || e != api.ErrArg {
				t.Errorf("Quiet(%d, %x): %x, %v", number, b, got, e)
			}
		}
		for _, d := range []api.Datum{{}, {Class: api.Finite}, {Class: api.Infinite}, {Class: api.NaN, Coef: api.Bits{5}}, {Class: 9, Exp: math.MinInt, Coef: power(256, 1)}} {
			if got, e := binary.Pack(number, d); got != (api.Bits{}) || e != api.ErrArg {
				t.Errorf("Pack(%d, %+v): %x, %v", number, d, got, e)
			}
		}
		for _, sign := range []bool{false, true} {
			if got, e := binary.Largest(number, sign); got != (api.Bits{}) || e != api.ErrArg {
				t.Errorf("Largest(%d, %v): %x, %v", number, sign, got, e)
			}
		}
	}
}

// R5, R6: a pattern with bits beyond the width is ErrArg.
func TestTooWide(t *testing.T) {
	for _, f := range formats {
		for _, b := range f.tooWide() {
			if got, e := binary.Unpack(f.number, b); got != (api.Datum{}) || e != api.ErrArg {
				t.Errorf("Unpack(%d, %x): %+v, %v", f.number, b, got, e)
			}
			if got, e := binary.Quiet(f.number, b); got != (api.Bits{}) || e != api.ErrArg {
				t.Errorf("Quiet(%d, %x): %x, %v", f.number, b, got, e)
			}
		}
	}
}
