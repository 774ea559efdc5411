package convert_test

import (
	"math"
	"math/big"
	"strconv"
	"strings"
	"testing"

	"caliper/api"
	"caliper/convert"
	"caliper/dectext"
	"caliper/shortest"
)

// sameText fails unless a pattern's text is that of layer 9 or 16, which it tells.
func (f format) sameText(t *testing.T, b api.Bits) string {
	t.Helper()
	write := shortest.Write
	if f.base == 10 {
		write = dectext.Write
	}
	want, errno := write(f.number, b)
	if errno != api.OK {
		t.Fatalf("beneath: %x of %d: %d", b, f.number, errno)
	}
	writes(t, f.number, b, want)
	return want
}

// TestTexts holds texts of every format, written out, without the oracle: each is written so, and read so in all directions.
func TestTexts(t *testing.T) {
	for _, c := range []struct {
		number int
		s      string
		b      api.Bits
	}{
		{1, "1e0", api.Bits{0x3c00}},
		{1, "-1.5e0", api.Bits{0xbe00}},
		{1, "0e0", api.Bits{}},
		{1, "-0e0", api.Bits{0x8000}},
		{1, "inf", api.Bits{0x7c00}},
		{1, "nan", api.Bits{0x7e00}},
		{1, "-snan(511)", api.Bits{0xfdff}},
		{2, "1e0", api.Bits{0x3f80}},
		{2, "-inf", api.Bits{0xff80}},
		{2, "nan(63)", api.Bits{0x7fff}},
		{3, "1e0", api.Bits{0x3f800000}},
		{3, "1.5e0", api.Bits{0x3fc00000}},
		{3, "-nan(5)", api.Bits{0xffc00005}},
		{4, "-1e0", api.Bits{0xbff0000000000000}},
		{4, "2.5e-1", api.Bits{0x3fd0000000000000}},
		{4, "snan(1)", api.Bits{0x7ff0000000000001}},
		{5, "1e0", api.Bits{0, 0x3fff000000000000}},
		{5, "inf", api.Bits{0, 0x7fff000000000000}},
		{6, "1e0", api.Bits{0, 0, 0, 0x3fff000000000000}},
		{6, "-0e0", api.Bits{0, 0, 0, 1 << 63}},
		{6, "snan(7)", api.Bits{7, 0, 0, 0x7fff000000000000}},
		{7, "1e0", api.Bits{0x32800001}},
		{7, "1.20e1", api.Bits{0x32000078}},
		{7, "0e5", api.Bits{0x35000000}},
		{7, "inf", api.Bits{0x78000000}},
		{7, "snan", api.Bits{0x7e000000}},
		{7, "-nan(999999)", api.Bits{0xfc0f423f}},
		{8, "1e0", api.Bits{0x31c0000000000001}},
		{8, "-inf", api.Bits{0xf800000000000000}},
		{9, "1e0", api.Bits{1, 0x3040000000000000}},
		{9, "nan(7)", api.Bits{7, 0x7c00000000000000}},
		{10, "1e0", api.Bits{0x22500001}},
		{10, "1.20e0", api.Bits{0x223000a0}},
		{10, "-9.999999e96", api.Bits{0xf7f3fcff}},
		{10, "0e-101", api.Bits{}},
		{10, "-snan(999)", api.Bits{0xfe0000ff}},
		{11, "1e0", api.Bits{0x2238000000000001}},
		{11, "-0e0", api.Bits{0xa238000000000000}},
		{12, "1e0", api.Bits{1, 0x2208000000000000}},
		{12, "nan", api.Bits{0, 0x7c00000000000000}},
	} {
		writes(t, c.number, c.b, c.s)
		for _, direction := range directions {
			reads(t, c.number, direction, c.s, c.b, 0)
		}
	}
	// These are rounded when they are read.
	writes(t, 1, api.Bits{0xfbff}, "-6.55e4")
	writes(t, 1, api.Bits{1}, "6e-8")
	writes(t, 2, api.Bits{0x3dcd}, "1e-1")
	writes(t, 3, api.Bits{0x3dcccccd}, "1e-1")
	writes(t, 4, api.Bits{0x4340000000000001}, "9.007199254740994e15")
	writes(t, 5, api.Bits{0x999999999999999a, 0x3ffb999999999999}, "1e-1")
}

// TestReadWritten holds texts that are rounded, written out, without the oracle.
func TestReadWritten(t *testing.T) {
	for _, c := range []struct {
		number, direction int
		s                 string
		want              api.Bits
		flags             int
	}{
		{1, api.Even, "65520", api.Bits{0x7c00}, overflow},
		{1, api.Zero, "65520", api.Bits{0x7bff}, inexact},
		{1, api.Zero, "65536", api.Bits{0x7bff}, overflow},
		{1, api.Down, "65519", api.Bits{0x7bff}, inexact},
		{1, api.Even, "2.9e-8", api.Bits{}, underflow},
		{1, api.Up, "2.9e-8", api.Bits{1}, underflow},
		{2, api.Even, "0.1", api.Bits{0x3dcd}, inexact},
		{2, api.Down, "0.1", api.Bits{0x3dcc}, inexact},
		{3, api.Even, "0.1", api.Bits{0x3dcccccd}, inexact},
		{3, api.Zero, "-0.1", api.Bits{0xbdcccccc}, inexact},
		{3, api.Even, "16777217", api.Bits{0x4b800000}, inexact},
		{3, api.Away, "16777217", api.Bits{0x4b800001}, inexact},
		{4, api.Even, "0.1", api.Bits{0x3fb999999999999a}, inexact},
		{4, api.Even, "1e309", api.Bits{0x7ff0000000000000}, overflow},
		{4, api.Up, "-1e309", api.Bits{0xffefffffffffffff}, overflow},
		{4, api.Up, "-1e-400", api.Bits{1 << 63}, underflow},
		{5, api.Even, "0.1", api.Bits{0x999999999999999a, 0x3ffb999999999999}, inexact},
		{6, api.Zero, "0.1", api.Bits{0x9999999999999999, 0x9999999999999999, 0x9999999999999999, 0x3ffb999999999999}, inexact},
		{7, api.Even, "12345675", api.Bits{0x3312d688}, inexact},
		{7, api.Even, "1e97", api.Bits{0x78000000}, overflow},
		{7, api.Zero, "1e97", api.Bits{0x77f8967f}, overflow},
		{7, api.Even, "1e-102", api.Bits{}, underflow},
		{7, api.Up, "1e-102", api.Bits{1}, underflow},
		{8, api.Even, "0.10", api.Bits{0x318000000000000a}, 0},
		{9, api.Even, "-1e7000", api.Bits{0, 0xf800000000000000}, overflow},
		{10, api.Even, "1e96", api.Bits{0x47f00000}, 0},
		{10, api.Even, "0e500", api.Bits{0x43f00000}, 0},
		{10, api.Down, "-99999995e89", api.Bits{0xf8000000}, overflow},
		{11, api.Up, "1.0000000000000001", api.Bits{0x25fc000000000001}, inexact},
		{12, api.Even, "1e-7000", api.Bits{}, underflow},
		{12, api.Up, "1e-7000", api.Bits{1}, underflow},
	} {
		reads(t, c.number, c.direction, c.s, c.want, c.flags)
	}
}

// text is a decimal pattern's text by the words of layer 16's chapter.
func (m meaning) text() string {
	sign := ""
	if m.sign {
		sign = "-"
	}
	payload := ""
	if m.class == api.NaN && m.coef.Sign() > 0 {
		payload = "(" + m.coef.String() + ")"
	}
	switch {
	case m.class == api.Infinite:
		return sign + "inf"
	case m.signal:
		return sign + "snan" + payload
	case m.class == api.NaN:
		return sign + "nan" + payload
	}
	digits := m.coef.String()
	exp := strconv.Itoa(m.exp + len(digits) - 1)
	if len(digits) > 1 {
		digits = digits[:1] + "." + digits[1:]
	}
	return sign + digits + "e" + exp
}

// P22.1, P3: decimal patterns of every kind are written as the oracle has it, and read back, in every direction, as their canonical patterns, without flags.
func TestP22_1_DecimalTexts(t *testing.T) {
	each(t, decimals, func(t *testing.T, f format) {
		list := append(f.edges(), f.nans(f.payloads())...)
		for seed := range uint64(500) {
			list = append(list, f.drawn(seed), f.near(seed), f.tiny(seed))
		}
		for _, pair := range f.strange() {
			list = append(list, pair[0], pair[1])
		}
		for i, b := range list {
			m := f.of(b)
			s := m.text()
			writes(t, f.number, b, s)
			want, _ := f.own(b)
			if m.signal {
				want = f.nan(m.sign, true, m.coef)
			}
			reads(t, f.number, directions[i%5], s, want, 0)
			reads(t, f.number, directions[(i+2)%5], strings.ToUpper(s), want, 0)
		}
	})
}

// P22.1, P2: binary patterns of every kind are written as layer 9 has it, and read back, to the nearest, as the same patterns; numbers raise nothing but Inexact, and Underflow with it.
func TestP22_1_BinaryTexts(t *testing.T) {
	each(t, binaries, func(t *testing.T, f format) {
		list := append(f.edges(), f.nans(f.payloads())...)
		for seed := range uint64(200) {
			list = append(list, f.drawn(seed), f.near(seed), f.tiny(seed))
		}
		for _, b := range list {
			for _, b := range []api.Bits{b, f.negated(b)} {
				s := f.sameText(t, b)
				got, flags, errno := convert.Read(f.number, api.Even, s)
				if got != b || flags != 0 && flags != inexact && flags != underflow || errno != api.OK {
					t.Errorf("%x of %d: %s, %x %d %d", b, f.number, s, got, flags, errno)
				}
				if m := f.of(b); m.class != api.Finite && s != m.text() {
					t.Errorf("%x of %d: %s, not %s", b, f.number, s, m.text())
				}
			}
		}
	})
}

// P6: of Single and Double the texts are those of the language, in its other form.
func TestP6_Texts(t *testing.T) {
	t.Parallel()
	single, double := numbered(api.Single), numbered(api.Double)
	for seed := range uint64(1000) {
		for _, b := range []api.Bits{single.drawn(seed), single.near(seed), single.tiny(seed)} {
			if f := math.Float32frombits(uint32(b[0])); f-f == 0 {
				writes(t, api.Single, b, language(float64(f), 32))
			}
		}
		for _, b := range []api.Bits{double.drawn(seed), double.near(seed), double.tiny(seed)} {
			if f := math.Float64frombits(b[0]); f-f == 0 {
				writes(t, api.Double, b, language(f, 64))
			}
		}
	}
}

// language is the language's text of a number, its exponent without a + and without noughts ahead.
func language(f float64, width int) string {
	digits, exp, _ := strings.Cut(strconv.FormatFloat(f, 'e', -1, width), "e")
	n, _ := strconv.Atoi(exp)
	return digits + "e" + strconv.Itoa(n)
}

// looks are texts of digits times 10^exp in several forms.
func looks(digits string, exp int) []string {
	at := strconv.Itoa
	list := []string{digits + "e" + at(exp), "00" + digits + "E" + at(exp), digits + ".e" + at(exp), "." + digits + "e" + at(exp+len(digits))}
	if len(digits) > 1 {
		list = append(list, digits[:1]+"."+digits[1:]+"e"+at(exp+len(digits)-1))
	}
	if exp >= 0 {
		list = append(list, digits+"e+"+at(exp))
	}
	return list
}

// P1, P22.1: whatever text, format and direction: the text's number, rounded as the document says, with just its flags: numbers of all sizes, with few digits and with more than the format has.
func TestP1_Texts(t *testing.T) {
	each(t, formats, func(t *testing.T, g format) {
		for seed := range uint64(300) {
			size := []int{1, 2, 7, 8, 17, 35, 60}[seed%7]
			digits := among(seed, ten(size-1), ten(size))
			exp := within(seed+1, -60, 60)
			if seed%3 == 0 {
				exp = g.depthOrReach(seed)
			}
			exp -= size
			want := g.answers(meaning{class: api.Finite, coef: digits, base: 10, exp: exp})
			forms := looks(digits.String(), exp)
			for _, direction := range directions {
				s := forms[(int(seed)+direction)%len(forms)]
				wanted, flags := want(direction, false)
				reads(t, g.number, direction, s, wanted, flags)
				reads(t, g.number, direction, "+"+s, wanted, flags)
				wanted, flags = want(direction, true)
				reads(t, g.number, direction, "-"+s, wanted, flags)
			}
		}
	})
}

// depthOrReach is a place next to one of the ends of a format.
func (f format) depthOrReach(seed uint64) int {
	if seed%2 == 0 {
		return f.reach() + within(seed+2, -3, 2)
	}
	return -f.depth() + within(seed+2, -3, 4)
}

// P22.1: texts of noughts: the sign stays, and of decimal formats the exponent, as far as it goes.
func TestP22_1_ReadNoughts(t *testing.T) {
	for _, g := range formats {
		for _, c := range []struct {
			s   string
			exp int
		}{{"0", 0}, {"00000", 0}, {"0.", 0}, {".0", -1}, {"0.000", -3}, {"0e5", 5}, {"0e-5", -5}, {"0.00e400", 398}, {"0e91", 91}, {"0e370", 370}, {"0e6112", 6112}, {"0e-102", -102}, {"0e-399", -399}, {"0e-6177", -6177}, {"0e1000000000", 1000000000}, {"0e-99999999999999999999", -1000000000}} {
			for _, direction := range directions {
				reads(t, g.number, direction, c.s, g.nought(false, c.exp), 0)
				reads(t, g.number, direction, "-"+c.s, g.nought(true, c.exp), 0)
			}
		}
	}
}

// P22.1: texts of infinities and NaNs raise nothing: a payload that is too great becomes 0, and of a binary NaN that signals 0 becomes 1.
func TestP22_1_ReadOthers(t *testing.T) {
	for _, g := range formats {
		for _, direction := range directions {
			for _, s := range []string{"inf", "infinity", "INF", "iNfInItY"} {
				reads(t, g.number, direction, s, g.infinity(false), 0)
				reads(t, g.number, direction, "+"+s, g.infinity(false), 0)
				reads(t, g.number, direction, "-"+s, g.infinity(true), 0)
			}
			bound := power(g.base, g.room())
			for _, payload := range []*big.Int{new(big.Int), big.NewInt(1), big.NewInt(7), plus(bound, -1), bound, plus(bound, 1), ten(100), plus(ten(3900), -1)} {
				quiet := g.payload(payload)
				signal := quiet
				if g.base == 2 && signal.Sign() == 0 {
					signal = big.NewInt(1)
				}
				for _, sign := range signs {
					minus := map[bool]string{false: "", true: "-"}[sign]
					reads(t, g.number, direction, minus+"nan("+payload.String()+")", g.nan(sign, false, quiet), 0)
					reads(t, g.number, direction, minus+"sNaN(00"+payload.String()+")", g.nan(sign, true, signal), 0)
					if payload.Sign() == 0 {
						reads(t, g.number, direction, minus+"NaN", g.nan(sign, false, quiet), 0)
						reads(t, g.number, direction, minus+"snan", g.nan(sign, true, signal), 0)
					}
				}
			}
		}
	}
}

// outside are texts outside the grammar.
var outside = []string{"", " ", "\n", ".", "+", "-", "-.", "..", "1..", "1.5.2", "1e", "1E", "1e+", "1e-", "e", "e5", ".e5", "1 ", " 1", "1 e5", "--1", "+-1", "1-", "1e5.0", "1e5e5", "x", "1x", "1p5", "0x1", "0x1p3", "0x1.8p+0", "in", "infi", "infinityy", "inf1", "-i", "na", "nann", "nan(", "nan)", "nan()", "nan(-1)", "nan(1", "nan(1))", "nan(1)(1)", "nan 1", "nan1", "snan(1.0)", "ssnan", "sinf", "qnan", "inf(1)", "1_000", "1,5", "\u0661", "1\x00", "1\xff", "\u017fnan", "\u2212" + "1"}

// P22.1, P1: texts outside the grammar are ErrForm, those that are too long ErrLong, with nothing beside it, of every format in every direction.
func TestP22_1_TextErrors(t *testing.T) {
	long := api.MostText + 1
	for _, g := range formats {
		for _, direction := range directions {
			for _, s := range outside {
				refusedText(t, g.number, direction, s, api.ErrForm)
			}
			for _, s := range []string{strings.Repeat("x", api.MostText), strings.Repeat("1", api.MostText-1) + "e", "." + nines(api.MostText-1)} {
				refusedText(t, g.number, direction, s, api.ErrForm)
			}
			for _, s := range []string{strings.Repeat("1", long), strings.Repeat("x", long), noughts(long), "nan(" + strings.Repeat("1", long-5) + ")", strings.Repeat("1", 1<<16)} {
				refusedText(t, g.number, direction, s, api.ErrLong)
			}
			// Of just MostText bytes.
			m := meaning{class: api.Finite, coef: plus(ten(api.MostText), -1), base: 10}
			want, flags := g.answers(m)(direction, false)
			reads(t, g.number, direction, nines(api.MostText), want, flags)
			reads(t, g.number, direction, noughts(api.MostText-1)+"1", g.one(false), 0)
		}
	}
}
