package dectext_test

import (
	"math"
	"strings"
	"sync"
	"testing"

	"caliper/api"
	"caliper/decimal"
	"caliper/dectext"
	"caliper/grammar"
)

// others are numbers of formats that aren't decimal, and numbers of none.
var others = []int{1, 2, 3, 4, 5, 6, 0, 13, 14, -1, -7, -10, 256 + 7, 1<<32 + 10, math.MinInt, math.MinInt + 7, math.MaxInt}

// nowhere are numbers of no direction.
var nowhere = []int{-1, 5, 6, 256, 1 << 32, 1<<32 + 2, math.MinInt, math.MaxInt}

// refused fails unless Read answers the error and nothing else.
func refused(t *testing.T, want api.Errno, number, direction int, s string) {
	t.Helper()
	b, flags, errno := dectext.Read(number, direction, s)
	if b != (api.Bits{}) || flags != 0 || errno != want {
		t.Errorf("Read(%d, %d, %s): %x %d %d, not the error %d", number, direction, brief(s), b, flags, errno, want)
	}
}

// refusedParts fails unless Make answers the error and nothing else.
func refusedParts(t *testing.T, want api.Errno, number, direction int, p grammar.Parts) {
	t.Helper()
	b, flags, errno := dectext.Make(number, direction, p)
	if b != (api.Bits{}) || flags != 0 || errno != want {
		t.Errorf("Make(%d, %d, %d %v %v %s %d): %x %d %d, not the error %d", number, direction, p.Class, p.Sign, p.Signal, brief(p.Digits), p.Exp, b, flags, errno, want)
	}
}

// refusedPattern fails unless Write answers ErrArg and nothing else.
func refusedPattern(t *testing.T, number int, b api.Bits) {
	t.Helper()
	if s, errno := dectext.Write(number, b); s != "" || errno != api.ErrArg {
		t.Errorf("Write(%d, %x): %s %d, not ErrArg", number, b, brief(s), errno)
	}
}

// texts are of every kind: finite ones, others, none, and too long ones.
func texts() []string {
	return []string{"1", "-0.1", "0", "1e999", "1e-9999", "inf", "-nan(5)", "snan", "", "x", "1e", "nan()", strings.Repeat("1", api.MostText+1), strings.Repeat("x", api.MostText+1)}
}

// manyParts are of every kind: those that Join takes, and others.
func manyParts() []grammar.Parts {
	return []grammar.Parts{
		{Class: api.Finite, Digits: "15", Exp: -1},
		{Class: api.Finite, Sign: true},
		{Class: api.Infinite},
		{Class: api.NaN, Digits: "5"},
		{Class: api.NaN, Signal: true},
		{},
		{Class: 9, Digits: "x"},
		{Class: api.Finite, Digits: "01"},
		{Class: api.Finite, Digits: "1", Exp: billion + 1},
		{Class: api.Infinite, Signal: true},
		{Class: api.Finite, Digits: strings.Repeat("1", api.MostText+1)},
	}
}

// R5, R6: a format that is none or isn't decimal, a direction that is none, or both, are ErrArg, ahead of what is wrong with a text or its parts.
func TestArguments(t *testing.T) {
	for _, number := range others {
		for _, direction := range append(nowhere, directions...) {
			for _, s := range texts() {
				refused(t, api.ErrArg, number, direction, s)
			}
			for _, p := range manyParts() {
				refusedParts(t, api.ErrArg, number, direction, p)
			}
		}
	}
	for _, f := range formats {
		for _, direction := range nowhere {
			for _, s := range texts() {
				refused(t, api.ErrArg, f.number, direction, s)
			}
			for _, p := range manyParts() {
				refusedParts(t, api.ErrArg, f.number, direction, p)
			}
		}
	}
}

// R5, R6: Write of a format that is none or isn't decimal, and of patterns with bits beyond the width, also both at once.
func TestPatternArguments(t *testing.T) {
	full := api.Bits{math.MaxUint64, math.MaxUint64, math.MaxUint64, math.MaxUint64}
	for _, number := range others {
		for _, b := range []api.Bits{{}, {1}, {0x22500001}, {0x78000000}, {0x7c000000}, {1 << 32}, {0, 1}, {0, 0, 1}, {0, 0, 0, 1 << 63}, full} {
			refusedPattern(t, number, b)
		}
	}
	for _, f := range formats {
		low := []api.Bits{
			{},
			f.pattern(finite(false, "1", 0)),
			f.pattern(finite(true, nines(f.precision), f.most)),
			f.pattern(api.Datum{Class: api.Infinite}),
			f.pattern(api.Datum{Class: api.NaN, Sign: true, Signal: true}),
		}
		for _, b := range low {
			for bit := f.width; bit < 256; bit++ {
				refusedPattern(t, f.number, set(b, bit))
			}
			writes(t, f.number, b, written(meaning(f.number, b)))
		}
		refusedPattern(t, f.number, full)
	}
}

// meaning is what a pattern means.
func meaning(number int, b api.Bits) api.Datum {
	d, _, errno := decimal.Unpack(number, b)
	if errno != api.OK {
		panic(errno)
	}
	return d
}

// P16.1, R5: Cut's errors.
func TestP16_1_TextErrors(t *testing.T) {
	long := api.MostText + 1
	for _, f := range formats {
		for _, direction := range directions {
			for _, s := range []string{"", " ", "\n", ".", "+", "-", "-.", "+.", "..", "1..", "1.5.2", ".1.", "1e", "1E", "1e+", "1e-", "e", "e5", ".e5", "-e5", "1 ", " 1", "1 e5", "1e 5", "--1", "+-1", "-+1", "1-", "1e5.0", "1e5e5", "1e5-", "x", "1x", "1d5", "1p5", "0x1", "0x1p3", "in", "infi", "infinit", "infinityy", "inf1", "-i", "na", "nann", "nan(", "nan)", "nan()", "nan(-1)", "nan(+1)", "nan(1", "nan(1))", "nan(1)(1)", "nan 1", "nan(1 )", "nan1", "snan(1.0)", "snan(1e5)", "ssnan", "sinf", "qnan", "inf(1)", "1_000", "1,5", "\u0661", "\uff11", "1\x00", "\x001", "1\xff", "\u017fnan", "\u0130nf", "\u22121", strings.Repeat("x", api.MostText), strings.Repeat("1", api.MostText-1) + "e", strings.Repeat(" ", api.MostText)} {
				refused(t, api.ErrForm, f.number, direction, s)
			}
			for _, s := range []string{strings.Repeat("1", long), strings.Repeat("0", long), strings.Repeat("x", long), "-" + strings.Repeat("9", long-1), "nan(" + strings.Repeat("1", long-5) + ")", "1e" + strings.Repeat("0", long-2), strings.Repeat("1", 1<<20)} {
				refused(t, api.ErrLong, f.number, direction, s)
			}
		}
	}
}

// P16.1: texts of just MostText bytes. A point takes less room than the exponent that stands for it: Join takes no parts whose own text is longer, so that such a text is ErrForm.
func TestP16_1_LongestTexts(t *testing.T) {
	most := strings.Repeat("9", api.MostText)
	for _, f := range formats {
		one := f.pattern(finite(false, "1", 0))
		full := f.pattern(finite(false, "1"+noughts(f.precision-1), 1-f.precision))
		for _, direction := range directions {
			want := f.rounded(value{most, 0}, direction, false)
			reads(t, f.number, direction, most, f.pattern(want.d), want.flags)
			want = f.rounded(value{most[1:], 0}, direction, true)
			reads(t, f.number, direction, "-"+most[1:], f.pattern(want.d), want.flags)
		}
		reads(t, f.number, api.Even, "."+most[:api.MostText-6], full, inexact)
		reads(t, f.number, api.Up, "0000."+most[:api.MostText-6], full, inexact)
		refused(t, api.ErrForm, f.number, api.Even, "."+most[:api.MostText-5])
		refused(t, api.ErrForm, f.number, api.Even, "-."+most[:api.MostText-6])
		refused(t, api.ErrForm, f.number, api.Even, "."+most[:api.MostText-1])
		refused(t, api.ErrForm, f.number, api.Even, "9."+most[:api.MostText-2])
		// Noughts ahead aren't among the digits.
		reads(t, f.number, api.Even, noughts(api.MostText-1)+"1", one, 0)
		reads(t, f.number, api.Even, "0."+noughts(api.MostText-8)+"1e3993", one, 0)
		reads(t, f.number, api.Even, "1e"+noughts(api.MostText-2), one, 0)
		reads(t, f.number, api.Even, "nan("+noughts(api.MostText-6)+"5)", f.pattern(api.Datum{Class: api.NaN, Coef: api.Bits{5}}), 0)
		reads(t, f.number, api.Even, "nan("+most[:api.MostText-5]+")", f.pattern(api.Datum{Class: api.NaN}), 0)
		reads(t, f.number, api.Even, "-snan("+most[:api.MostText-7]+")", f.pattern(api.Datum{Class: api.NaN, Sign: true, Signal: true}), 0)
	}
}

// wrongParts are those that Join doesn't take.
func wrongParts() []grammar.Parts {
	var list []grammar.Parts
	for _, class := range []int{0, -1, 4, 5, 257, 1 << 32, 1<<32 + 1, math.MinInt, math.MaxInt} {
		for _, digits := range []string{"", "7", "150", "inf", "nan"} {
			list = append(list, grammar.Parts{Class: class, Digits: digits}, grammar.Parts{Class: class, Digits: digits, Exp: 2}, grammar.Parts{Class: class, Signal: true, Digits: digits})
		}
	}
	list = append(list,
		grammar.Parts{Class: api.Finite, Signal: true},
		grammar.Parts{Class: api.Finite, Signal: true, Digits: "7", Exp: 1},
		grammar.Parts{Class: api.Infinite, Signal: true},
		grammar.Parts{Class: api.Infinite, Digits: "7"},
		grammar.Parts{Class: api.Infinite, Exp: 1},
		grammar.Parts{Class: api.NaN, Exp: 1},
		grammar.Parts{Class: api.NaN, Signal: true, Digits: "7", Exp: -1},
	)
	for _, exp := range []int{billion + 1, -billion - 1, 1 << 31, -1 << 31, 1 << 32, 1 << 40, math.MaxInt, math.MinInt} {
		list = append(list, grammar.Parts{Class: api.Finite, Exp: exp}, grammar.Parts{Class: api.Finite, Digits: "7", Exp: exp})
	}
	for _, digits := range []string{"0", "00", "01", "007", " ", "1 ", " 1", "a", "1a", "+1", "-1", "+", "-", ".", "1.5", "1e5", "e5", "inf", "nan", "(1)", "1)", "\x00", "1\xff", "\u0661", "1_0", "0x1"} {
		list = append(list, grammar.Parts{Class: api.Finite, Digits: digits}, grammar.Parts{Class: api.Finite, Digits: digits, Exp: 5}, grammar.Parts{Class: api.NaN, Digits: digits}, grammar.Parts{Class: api.NaN, Signal: true, Digits: digits}, grammar.Parts{Class: api.Infinite, Digits: digits})
	}
	most := strings.Repeat("7", api.MostText)
	return append(list,
		grammar.Parts{Class: api.Finite, Digits: most + "7"},
		grammar.Parts{Class: api.Finite, Digits: most, Exp: 1},
		grammar.Parts{Class: api.Finite, Digits: most[:api.MostText-2], Exp: -1},
		grammar.Parts{Class: api.Finite, Digits: most[:api.MostText-10], Exp: billion},
		grammar.Parts{Class: api.NaN, Digits: most[:api.MostText-4]},
		grammar.Parts{Class: api.NaN, Signal: true, Digits: most[:api.MostText-5]},
		grammar.Parts{Class: api.Finite, Digits: strings.Repeat("7", 1<<20)},
		grammar.Parts{Class: api.NaN, Digits: strings.Repeat("7", 1<<20)},
	)
}

// P16.1, R5: parts that Join doesn't take.
func TestP16_1_PartsErrors(t *testing.T) {
	for _, p := range wrongParts() {
		for _, f := range formats {
			for _, direction := range directions {
				refusedParts(t, api.ErrForm, f.number, direction, p)
				p.Sign = !p.Sign
				refusedParts(t, api.ErrForm, f.number, direction, p)
			}
		}
	}
}

// P16.1: parts with the most digits that Join takes.
func TestP16_1_LongestParts(t *testing.T) {
	most := strings.Repeat("7", api.MostText)
	for _, f := range formats {
		for _, v := range []value{{most, 0}, {most[:api.MostText-6], -3999}, {most[:api.MostText-11], billion}, {most[:api.MostText-12], -billion}} {
			for _, direction := range directions {
				want := f.rounded(v, direction, false)
				makes(t, f.number, direction, grammar.Parts{Class: api.Finite, Digits: v.digits, Exp: v.exp}, f.pattern(want.d), want.flags)
			}
		}
		makes(t, f.number, api.Even, grammar.Parts{Class: api.NaN, Digits: most[:api.MostText-5]}, f.pattern(api.Datum{Class: api.NaN}), 0)
	}
}

// R2: the same arguments have the same answers, whatever was asked in between.
func TestSameAnswers(t *testing.T) {
	for range 3 {
		reads(t, api.Dense32, api.Even, "1.20", api.Bits{0x223000a0}, 0)
		refused(t, api.ErrForm, api.Dense32, api.Even, "1.20e")
		reads(t, api.Dense32, api.Up, "1e-200", api.Bits{1}, underflow)
		refused(t, api.ErrArg, api.Single, api.Even, "1.20")
		writes(t, api.Plain32, api.Bits{0x31800078}, "1.20e0")
		reads(t, api.Plain32, api.Even, "snan(1000000)", api.Bits{0x7e000000}, 0)
	}
}

// R2: what is answered doesn't hang on what is asked at the same time.
func TestTogether(t *testing.T) {
	var wait sync.WaitGroup
	for _, f := range formats {
		for seed := range uint64(40) {
			wait.Go(func() {
				f.back(t, f.anyPattern(seed))
				f.check(t, value{drawn(int(seed)+1, seed), f.exps()[seed%9]})
			})
		}
	}
	wait.Wait()
}

// R1, P1: whatever text, format and direction, Read ends, and answers what Make does of Cut's parts, or an error and nothing else; and what is read is rounded as the document says.
func FuzzRead(f *testing.F) {
	for i, s := range []string{"", "0.10", "-1e97", "99999995e89", "snan(07)", "-inf", "15e-102", "1e", ".", "0e-9999", "nan(1000000)", "1000000000000000000000"} {
		f.Add(6+i%8, i%6, s)
	}
	f.Fuzz(func(t *testing.T, number, direction int, s string) {
		p, wrong := grammar.Cut(s)
		switch {
		case number < api.Plain32 || number > api.Dense128 || direction < api.Even || direction > api.Down:
			refused(t, api.ErrArg, number, direction, s)
			refusedParts(t, api.ErrArg, number, direction, p)
			return
		case wrong != api.OK:
			refused(t, wrong, number, direction, s)
			return
		}
		if _, errno := grammar.Join(p); errno != api.OK {
			refused(t, api.ErrForm, number, direction, s)
			refusedParts(t, api.ErrForm, number, direction, p)
			return
		}
		form := formats[number-api.Plain32]
		if p.Class == api.Finite {
			want := form.rounded(value{p.Digits, p.Exp}, direction, p.Sign)
			reads(t, number, direction, s, form.pattern(want.d), want.flags)
			makes(t, number, direction, p, form.pattern(want.d), want.flags)
		}
		b, _, _ := dectext.Read(number, direction, s)
		form.back(t, b)
	})
}
