package dectext_test

import (
	"fmt"
	"math/big"
	"strconv"
	"strings"
	"testing"

	"caliper/api"
	"caliper/decimal"
	"caliper/dectext"
	"caliper/grammar"
)

const (
	inexact   = api.Inexact
	underflow = api.Underflow + api.Inexact
	overflow  = api.Overflow + api.Inexact
	billion   = 1000000000
)

// format is what DOC.md says of a decimal format, worked out by hand.
type format struct {
	number, width, precision, least, most int
}

var formats = []format{
	{7, 32, 7, -101, 90},
	{8, 64, 16, -398, 369},
	{9, 128, 34, -6176, 6111},
	{10, 32, 7, -101, 90},
	{11, 64, 16, -398, 369},
	{12, 128, 34, -6176, 6111},
}

var (
	directions = []int{api.Even, api.Away, api.Zero, api.Up, api.Down}
	signs      = []bool{false, true}
)

// value is digits times 10^exp: digits have no noughts ahead, and are none of 0.
type value struct {
	digits string
	exp    int
}

func noughts(n int) string { return strings.Repeat("0", n) }

func nines(n int) string { return strings.Repeat("9", n) }

// minus is what stands ahead of a number of that sign.
func minus(sign bool) string {
	if sign {
		return "-"
	}
	return ""
}

// shown is at least one digit.
func (v value) shown() string {
	if v.digits == "" {
		return "0"
	}
	return v.digits
}

// text is a value as digits and an exponent, without a point.
func (v value) text() string { return v.shown() + "e" + strconv.Itoa(v.exp) }

// ways are other texts of the same digits and the same exponent: with points at every place, noughts ahead, great letters, and exponents written in other ways.
func (v value) ways() []string {
	digits := v.shown()
	list := []string{
		noughts(40) + v.text(),
		strings.ToUpper(v.text()),
		fmt.Sprintf("%se%+d", digits, v.exp),
		fmt.Sprintf("%sE%+030d", digits, v.exp),
		fmt.Sprintf("0.%se%d", digits, v.exp+len(digits)),
		fmt.Sprintf(".%s%se%d", noughts(50), digits, v.exp+len(digits)+50),
	}
	for i := range len(digits) + 1 {
		list = append(list, fmt.Sprintf("%s.%se%d", digits[:i], digits[i:], v.exp+len(digits)-i))
	}
	if v.exp == 0 {
		list = append(list, digits, digits+".", noughts(9)+digits, digits+"e-0", digits+"E+000")
	}
	if v.exp < 0 && v.exp > -200 {
		padded := noughts(200) + digits
		list = append(list, padded[:len(padded)+v.exp]+"."+padded[len(padded)+v.exp:])
	}
	return list
}

// answer is what is made of a text.
type answer struct {
	d     api.Datum
	flags int
}

// finite is a finite datum; its digits may have noughts ahead.
func finite(sign bool, digits string, exp int) api.Datum {
	return api.Datum{Class: api.Finite, Sign: sign, Exp: exp, Coef: number(digits)}
}

// number is the number of digits, or 0 of none, as a pattern's words.
func number(digits string) api.Bits {
	n, ok := new(big.Int).SetString("0"+digits, 10)
	if !ok || n.BitLen() > 256 {
		panic(digits)
	}
	return bits(n)
}

func bits(n *big.Int) api.Bits {
	var b api.Bits
	for i := range b {
		b[i] = new(big.Int).Rsh(n, uint(64*i)).Uint64()
	}
	return b
}

// up is digits counted one up.
func up(digits string) string {
	n, _ := new(big.Int).SetString("0"+digits, 10)
	return n.Add(n, big.NewInt(1)).String()
}

// outward says whether a direction goes away from 0, whatever lies near.
func outward(direction int, sign bool) bool {
	return direction == api.Up && !sign || direction == api.Down && sign
}

// tooGreat is what becomes of a number that overflows.
func (f format) tooGreat(direction int, sign bool) answer {
	if direction == api.Even || direction == api.Away || outward(direction, sign) {
		return answer{api.Datum{Class: api.Infinite, Sign: sign}, overflow}
	}
	return answer{finite(sign, nines(f.precision), f.most), overflow}
}

// member is the one of a cohort whose exponent is nearest to the value's own: every exponent is tried that a coefficient has room for.
func (f format) member(v value, sign bool) answer {
	bare := strings.TrimRight(v.digits, "0")
	most := v.exp + len(v.digits) - len(bare)
	best, found := 0, false
	for exp := most; exp >= most-(f.precision-len(bare)); exp-- {
		if exp < f.least || exp > f.most {
			continue
		}
		if !found || max(exp-v.exp, v.exp-exp) < max(best-v.exp, v.exp-best) {
			best, found = exp, true
		}
	}
	if !found {
		panic(v)
	}
	return answer{finite(sign, bare+noughts(most-best), best), 0}
}

// cut is the digits of the value that stand at 10^exp or above, and those that stand below; of noughts ahead of the latter at most one.
func (v value) cut(exp int) (kept, gone string) {
	below := exp - v.exp
	switch {
	case below <= 0:
		return v.digits + noughts(-below), ""
	case below > len(v.digits):
		return "", "0" + v.digits
	}
	return v.digits[:len(v.digits)-below], v.digits[len(v.digits)-below:]
}

// farther says whether the number behind the kept digits is taken.
func farther(direction int, sign bool, kept, gone string) bool {
	switch direction {
	case api.Zero:
		return false
	case api.Up, api.Down:
		return outward(direction, sign)
	}
	if gone[0] != '5' || strings.Trim(gone[1:], "0") != "" {
		return gone[0] >= '5'
	}
	return direction == api.Away || kept != "" && strings.Contains("13579", kept[len(kept)-1:])
}

// rounded goes by the words of DOC.md and of layer 15 over the digits as a text. It shares no code, and no arithmetic, with the package.
func (f format) rounded(v value, direction int, sign bool) answer {
	if v.digits == "" {
		return answer{finite(sign, "", min(max(v.exp, f.least), f.most)), 0}
	}
	first := v.exp + len(v.digits) - 1
	exp := max(f.least, first-f.precision+1)
	if exp > f.most {
		return f.tooGreat(direction, sign)
	}
	kept, gone := v.cut(exp)
	if strings.Trim(gone, "0") == "" {
		return f.member(v, sign)
	}
	if farther(direction, sign, kept, gone) {
		kept = up(kept)
	}
	if len(kept) > f.precision {
		kept, exp = kept[:f.precision], exp+1
	}
	switch {
	case exp > f.most:
		return f.tooGreat(direction, sign)
	case first < f.least+f.precision-1:
		return answer{finite(sign, kept, exp), underflow}
	}
	return answer{finite(sign, kept, exp), inexact}
}

// pattern is the canonical one of a datum that is the format's.
func (f format) pattern(d api.Datum) api.Bits {
	b, errno := decimal.Pack(f.number, d)
	if errno != api.OK {
		panic(fmt.Sprint(f.number, d))
	}
	return b
}

// written is the text of a datum, by the chapter's words.
func written(d api.Datum) string {
	coef := new(big.Int)
	for i := len(d.Coef) - 1; i >= 0; i-- {
		coef.Or(coef.Lsh(coef, 64), new(big.Int).SetUint64(d.Coef[i]))
	}
	digits := coef.String()
	switch {
	case d.Class == api.Infinite:
		return minus(d.Sign) + "inf"
	case d.Class == api.NaN:
		text := minus(d.Sign) + map[bool]string{false: "nan", true: "snan"}[d.Signal]
		if digits != "0" {
			text += "(" + digits + ")"
		}
		return text
	case len(digits) == 1:
		return fmt.Sprintf("%s%se%d", minus(d.Sign), digits, d.Exp)
	}
	return fmt.Sprintf("%s%s.%se%d", minus(d.Sign), digits[:1], digits[1:], d.Exp+len(digits)-1)
}

// brief is a text that isn't too long to be told.
func brief(s string) string {
	if len(s) > 120 {
		return fmt.Sprintf("%q.. (%d bytes)", s[:100], len(s))
	}
	return fmt.Sprintf("%q", s)
}

// reads fails unless the text reads so.
func reads(t *testing.T, number, direction int, s string, want api.Bits, wantFlags int) {
	t.Helper()
	b, flags, errno := dectext.Read(number, direction, s)
	if b != want || flags != wantFlags || errno != api.OK {
		t.Errorf("Read(%d, %d, %s): %x %d %d, not %x %d", number, direction, brief(s), b, flags, errno, want, wantFlags)
	}
}

// makes fails unless the parts come to this.
func makes(t *testing.T, number, direction int, p grammar.Parts, want api.Bits, wantFlags int) {
	t.Helper()
	b, flags, errno := dectext.Make(number, direction, p)
	if b != want || flags != wantFlags || errno != api.OK {
		t.Errorf("Make(%d, %d, %d %v %v %s %d): %x %d %d, not %x %d", number, direction, p.Class, p.Sign, p.Signal, brief(p.Digits), p.Exp, b, flags, errno, want, wantFlags)
	}
}

// writes fails unless the pattern has this text.
func writes(t *testing.T, number int, b api.Bits, want string) {
	t.Helper()
	if s, errno := dectext.Write(number, b); s != want || errno != api.OK {
		t.Errorf("Write(%d, %x): %s %d, not %s", number, b, brief(s), errno, want)
	}
}

// check reads a value in every direction, with both signs, also as each of the other texts, which all have its digits and its exponent.
func (f format) check(t *testing.T, v value, texts ...string) {
	t.Helper()
	for _, direction := range directions {
		for _, sign := range signs {
			want := f.rounded(v, direction, sign)
			b := f.pattern(want.d)
			for _, s := range append(texts, v.text()) {
				reads(t, f.number, direction, minus(sign)+s, b, want.flags)
			}
			makes(t, f.number, direction, grammar.Parts{Class: api.Finite, Sign: sign, Digits: v.digits, Exp: v.exp}, b, want.flags)
		}
	}
}

// back fails unless a pattern has the text of what it means, and that is read back, in every direction, as the canonical pattern, without flags.
func (f format) back(t *testing.T, b api.Bits) {
	t.Helper()
	d, _, errno := decimal.Unpack(f.number, b)
	if errno != api.OK {
		t.Fatalf("Unpack(%d, %x): %d", f.number, b, errno)
	}
	text := written(d)
	writes(t, f.number, b, text)
	own := f.pattern(d)
	for _, direction := range directions {
		reads(t, f.number, direction, text, own, 0)
	}
}

// scattered is a word that follows from its seed alone.
func scattered(seed uint64) uint64 {
	seed = (seed + 1) * 0x9e3779b97f4a7c15
	word := (seed ^ seed>>30) * 0xbf58476d1ce4e5b9
	word = (word ^ word>>27) * 0x94d049bb133111eb
	return word ^ word>>31
}

// drawn is digits that follow from the seed alone, the first of them not 0.
func drawn(count int, seed uint64) string {
	digits := make([]byte, count)
	for i := range digits {
		digits[i] = '0' + byte(scattered(seed<<16+uint64(i))%10)
	}
	if count > 0 && digits[0] == '0' {
		digits[0] = '7'
	}
	return string(digits)
}

// anyPattern is bits within the format's width that follow from the seed alone.
func (f format) anyPattern(seed uint64) api.Bits {
	var b api.Bits
	for i := range f.width / 64 {
		b[i] = scattered(seed<<4 + uint64(i))
	}
	if f.width == 32 {
		b[0] = scattered(seed<<4) >> 32
	}
	return b
}

// set is a pattern with one more bit.
func set(b api.Bits, bit int) api.Bits {
	b[bit/64] |= 1 << (bit % 64)
	return b
}

// exps are some exponents of a format: about both bounds and about 0.
func (f format) exps() []int {
	return []int{f.least, f.least + 1, f.least + 2, -f.precision, -1, 0, 1, f.most - 1, f.most}
}

// each runs a test for every format, all at one time, and beside other tests.
func each(t *testing.T, run func(t *testing.T, f format)) {
	t.Parallel()
	for _, f := range formats {
		t.Run(strconv.Itoa(f.number), func(t *testing.T) {
			t.Parallel()
			run(t, f)
		})
	}
}
