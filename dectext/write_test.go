package dectext_test

import (
	"strconv"
	"strings"
	"testing"

	"caliper/api"
	"caliper/decimal"
	"caliper/dectext"
)

// P16.1, P16.2: coefficients of one digit, of every number of digits and of all, with and without noughts at the end, at all kinds of exponents.
func TestP16_1_WriteFinite(t *testing.T) {
	each(t, func(t *testing.T, f format) {
		for count := 1; count <= f.precision; count++ {
			for _, digits := range []string{"1" + noughts(count-1), "9" + noughts(count-1), nines(count), drawn(count, uint64(count)), drawn(count, uint64(count)+70)} {
				for _, exp := range f.exps() {
					for _, sign := range signs {
						b := f.pattern(finite(sign, digits, exp))
						text := minus(sign) + digits[:1]
						if count > 1 {
							text += "." + digits[1:]
						}
						writes(t, f.number, b, text+"e"+strconv.Itoa(exp+count-1))
						f.back(t, b)
					}
				}
			}
		}
		for digit := 1; digit <= 9; digit++ {
			writes(t, f.number, f.pattern(finite(false, strconv.Itoa(digit), 0)), strconv.Itoa(digit)+"e0")
		}
	})
}

// P16.1, P16.2: every exponent that a format has: of 0, of one digit, and of all.
func TestP16_1_WriteEveryExponent(t *testing.T) {
	each(t, func(t *testing.T, f format) {
		for exp := f.least; exp <= f.most; exp++ {
			for _, sign := range signs {
				zero := f.pattern(finite(sign, "", exp))
				writes(t, f.number, zero, minus(sign)+"0e"+strconv.Itoa(exp))
				f.back(t, zero)
				f.back(t, f.pattern(finite(sign, "7", exp)))
				f.back(t, f.pattern(finite(sign, nines(f.precision), exp)))
				f.back(t, f.pattern(finite(sign, drawn(f.precision, uint64(exp-f.least)), exp)))
			}
		}
	})
}

// P16.1, P16.2: infinities and NaNs, with payloads of every number of digits.
func TestP16_1_WriteOthers(t *testing.T) {
	each(t, func(t *testing.T, f format) {
		for _, sign := range signs {
			infinite := f.pattern(api.Datum{Class: api.Infinite, Sign: sign})
			writes(t, f.number, infinite, minus(sign)+"inf")
			f.back(t, infinite)
			for _, signal := range signs {
				text := minus(sign) + "nan"
				if signal {
					text = minus(sign) + "snan"
				}
				d := api.Datum{Class: api.NaN, Sign: sign, Signal: signal}
				writes(t, f.number, f.pattern(d), text)
				f.back(t, f.pattern(d))
				for count := 1; count < f.precision; count++ {
					for _, payload := range []string{"1" + noughts(count-1), nines(count), drawn(count, uint64(count))} {
						d.Coef = number(payload)
						writes(t, f.number, f.pattern(d), text+"("+payload+")")
						f.back(t, f.pattern(d))
					}
				}
			}
		}
	})
}

// P16.1, P16.2: patterns that aren't canonical, said without the oracle: they have the text of what they mean, and are read back as another pattern.
func TestP16_1_WriteNotCanonical(t *testing.T) {
	for _, c := range []struct {
		number int
		b      api.Bits
		text   string
		own    api.Bits
	}{
		// Coefficients of 10^P and more count as 0.
		{api.Plain32, api.Bits{0x6cb89680}, "0e0", api.Bits{0x32800000}},
		{api.Plain32, api.Bits{0xecbfffff}, "-0e0", api.Bits{0xb2800000}},
		{api.Plain64, api.Bits{0x6c7386f26fc10000}, "0e0", api.Bits{0x31c0000000000000}},
		{api.Plain128, api.Bits{0x378d8e6400000000, 0x3041ed09bead87c0}, "0e0", api.Bits{0, 0x3040000000000000}},
		{api.Plain128, api.Bits{0, 0x6c10000000000000}, "0e0", api.Bits{0, 0x3040000000000000}},
		// Declets that are none's.
		{api.Dense32, api.Bits{0x225003ff}, "9.99e2", api.Bits{0x225000ff}},
		{api.Dense32, api.Bits{0xa25001ff}, "-9.99e2", api.Bits{0xa25000ff}},
		{api.Dense64, api.Bits{0x22380000000003ff}, "9.99e2", api.Bits{0x22380000000000ff}},
		{api.Dense128, api.Bits{0x3ff, 0x2208000000000000}, "9.99e2", api.Bits{0xff, 0x2208000000000000}},
		// Bits of infinities that mean nothing.
		{api.Plain32, api.Bits{0x7bffffff}, "inf", api.Bits{0x78000000}},
		{api.Dense32, api.Bits{0xf8000001}, "-inf", api.Bits{0xf8000000}},
		{api.Plain128, api.Bits{1, 0x7800000000000000}, "inf", api.Bits{0, 0x7800000000000000}},
		// Bits of NaNs that mean nothing, and payloads that are too great.
		{api.Plain32, api.Bits{0x7d000005}, "nan(5)", api.Bits{0x7c000005}},
		{api.Plain32, api.Bits{0x7c0f4240}, "nan", api.Bits{0x7c000000}},
		{api.Plain32, api.Bits{0xffffffff}, "-snan", api.Bits{0xfe000000}},
		{api.Plain64, api.Bits{0x7c038d7ea4c68000}, "nan", api.Bits{0x7c00000000000000}},
		{api.Dense32, api.Bits{0x7f100005}, "snan(5)", api.Bits{0x7e000005}},
		{api.Dense32, api.Bits{0xffffffff}, "-snan(999999)", api.Bits{0xfe03fcff}},
		{api.Dense64, api.Bits{0x7c000000000003ff}, "nan(999)", api.Bits{0x7c000000000000ff}},
	} {
		writes(t, c.number, c.b, c.text)
		writes(t, c.number, c.own, c.text)
		for _, direction := range directions {
			reads(t, c.number, direction, c.text, c.own, 0)
		}
	}
}

// P16.1, P16.2: drawn patterns of every format, of which many aren't canonical, also with G's highest bits as those of each class.
func TestP16_2_Drawn(t *testing.T) {
	each(t, func(t *testing.T, f format) {
		classes, others := map[int]int{}, 0
		for seed := range uint64(15000) {
			b := f.anyPattern(seed)
			switch seed % 4 {
			case 1:
				// One that begins with 11: finite, infinite or a NaN.
				b = set(set(b, f.width-2), f.width-3)
			case 2:
				b = set(set(set(set(b, f.width-2), f.width-3), f.width-4), f.width-5)
			}
			f.back(t, b)
			d, canonical, _ := decimal.Unpack(f.number, b)
			classes[d.Class]++
			if !canonical {
				others++
			}
		}
		for class := api.Finite; class <= api.NaN; class++ {
			if classes[class] < 500 {
				t.Errorf("format %d: class %d only %d times", f.number, class, classes[class])
			}
		}
		if others < 500 {
			t.Errorf("format %d: only %d aren't canonical", f.number, others)
		}
	})
}

// P16.2: drawn coefficients of every number of digits, with drawn exponents.
func TestP16_2_Coefficients(t *testing.T) {
	each(t, func(t *testing.T, f format) {
		for seed := range uint64(5000) {
			digits := drawn(1+int(seed)%f.precision, seed)
			exp := f.least + int(scattered(seed)%uint64(f.most-f.least+1))
			f.back(t, f.pattern(finite(seed%2 == 0, digits, exp)))
		}
	})
}

// P16.2: all coefficients of the narrow formats that have at most four digits, and the greatest ones.
func TestP16_2_AllShort(t *testing.T) {
	for _, f := range []format{formats[0], formats[3]} {
		t.Run(strconv.Itoa(f.number), func(t *testing.T) {
			t.Parallel()
			for n := range 10000 {
				f.back(t, f.pattern(finite(false, strconv.Itoa(n), f.exps()[n%9])))
				f.back(t, f.pattern(finite(true, strconv.Itoa(9999999-n), f.exps()[n%9])))
			}
		})
	}
}

// P3, P16.2: the members of a cohort have unlike texts, and each is read back as itself.
func TestP16_2_Cohorts(t *testing.T) {
	each(t, func(t *testing.T, f format) {
		for count := 1; count <= f.precision; count++ {
			digits := strings.TrimRight(drawn(count, uint64(count)), "0")
			for _, exp := range f.exps() {
				seen := map[string]api.Bits{}
				members := 0
				for more := 0; more <= f.precision-len(digits) && exp-more >= f.least; more++ {
					b := f.pattern(finite(true, digits+noughts(more), exp-more))
					text, _ := dectext.Write(f.number, b)
					seen[text] = b
					members++
				}
				if len(seen) != members {
					t.Errorf("format %d, %se%d: %d texts of %d members", f.number, digits, exp, len(seen), members)
				}
				for text, b := range seen {
					reads(t, f.number, api.Even, text, b, 0)
				}
			}
		}
	})
}

// P16.1: unlike canonical patterns have unlike texts: all noughts of a format, and its infinities and quiet NaNs.
func TestP16_1_UnlikeTexts(t *testing.T) {
	for _, f := range formats {
		seen := map[string]bool{}
		count := 0
		add := func(d api.Datum) {
			text, _ := dectext.Write(f.number, f.pattern(d))
			seen[text] = true
			count++
		}
		for _, sign := range signs {
			for exp := f.least; exp <= f.most; exp++ {
				add(finite(sign, "", exp))
			}
			add(api.Datum{Class: api.Infinite, Sign: sign})
			for payload := range uint64(1000) {
				add(api.Datum{Class: api.NaN, Sign: sign, Coef: api.Bits{payload}})
				add(api.Datum{Class: api.NaN, Sign: sign, Signal: true, Coef: api.Bits{payload}})
			}
		}
		if len(seen) != count {
			t.Errorf("format %d: %d texts of %d patterns", f.number, len(seen), count)
		}
	}
}
