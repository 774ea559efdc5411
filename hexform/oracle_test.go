package hexform_test

import (
	"fmt"
	"math/big"
	"regexp"
	"strconv"
	"strings"
	"testing"

	"caliper/api"
	"caliper/hexform"
)

const (
	inexact   = api.Inexact
	underflow = api.Underflow + api.Inexact
	overflow  = api.Overflow + api.Inexact
	billion   = 1000000000
)

// format is what DOC.md says of a binary format, worked out by hand.
type format struct {
	number, width, precision, least, most int
}

var formats = []format{
	{1, 16, 11, -24, 5},
	{2, 16, 8, -133, 120},
	{3, 32, 24, -149, 104},
	{4, 64, 53, -1074, 971},
	{5, 128, 113, -16494, 16271},
	{6, 256, 241, -16622, 16143},
}

var directions = []int{api.Even, api.Away, api.Zero, api.Up, api.Down}

var bothSigns = []bool{false, true}

func two(n int) *big.Int { return new(big.Int).Lsh(big.NewInt(1), uint(n)) }

func plus(n *big.Int, more int64) *big.Int { return new(big.Int).Add(n, big.NewInt(more)) }

func minus(sign bool) string {
	if sign {
		return "-"
	}
	return ""
}

// infinity is the pattern of plus infinity.
func (f format) infinity() *big.Int { return new(big.Int).Sub(two(f.width-1), two(f.precision-1)) }

// pattern is the one of coef times 2^exp, which is the format's.
func (f format) pattern(coef *big.Int, exp int) *big.Int {
	return new(big.Int).Add(new(big.Int).Lsh(big.NewInt(int64(exp-f.least)), uint(f.precision-1)), coef)
}

// reading undoes pattern.
func (f format) reading(pattern *big.Int) (coef *big.Int, exp int) {
	field := int(new(big.Int).Rsh(pattern, uint(f.precision-1)).Int64())
	coef = new(big.Int).Mod(pattern, two(f.precision-1))
	if field == 0 {
		return coef, f.least
	}
	return coef.Add(coef, two(f.precision-1)), f.least + field - 1
}

// power is the pattern of 2^n, which is the format's.
func (f format) power(n int) *big.Int {
	exp := max(f.least, n-f.precision+1)
	return f.pattern(two(n-exp), exp)
}

// signed is a pattern with the sign's bit.
func (f format) signed(pattern *big.Int, sign bool) api.Bits {
	if sign {
		pattern = new(big.Int).Or(pattern, two(f.width-1))
	}
	var b api.Bits
	for i := range b {
		b[i] = new(big.Int).Rsh(pattern, uint(64*i)).Uint64()
	}
	return b
}

// text is that of a finite pattern, not 0. It goes by the chapter's words, bit by bit as letters, and shares no arithmetic with the package.
func (f format) text(pattern *big.Int) string {
	coef, exp := f.reading(pattern)
	behind := coef.Text(2)[1:]
	place := len(behind) + exp
	for len(behind)%4 != 0 {
		behind += "0"
	}
	digits := ""
	for ; behind != ""; behind = behind[4:] {
		four, _ := strconv.ParseUint(behind[:4], 2, 8)
		digits += strconv.FormatUint(four, 16)
	}
	digits = strings.TrimRight(digits, "0")
	if digits != "" {
		digits = "." + digits
	}
	return "0x1" + digits + "p" + fmt.Sprintf("%+d", place)
}

// place is where a number lies: at coef times 2^exp, or so far beyond it that half is -1, 0 or 1, as it holds against the middle to the next one.
type place struct {
	coef  *big.Int
	exp   int
	exact bool
	half  int
	small bool
}

// placed is where coef times 2^exp lies, coef not 0. It goes by DOC.md's words: q is LEAST, or the number by which the whole part of v / 2^q has P bits. Exponents far from the format's are brought near to it.
func (f format) placed(coef *big.Int, exp int) place {
	far := 2*f.width + 10
	exp = min(max(exp, f.least-far-coef.BitLen()), f.most+far)
	q := max(f.least, coef.BitLen()+exp-f.precision)
	if exp >= q {
		whole := new(big.Int).Lsh(coef, uint(exp-q))
		return place{whole, q, true, -1, whole.BitLen() < f.precision}
	}
	gone := uint(q - exp)
	whole := new(big.Int).Rsh(coef, gone)
	rest := new(big.Int).Sub(coef, new(big.Int).Lsh(whole, gone))
	half := rest.Cmp(two(int(gone) - 1))
	return place{whole, q, rest.Sign() == 0, half, whole.BitLen() < f.precision}
}

// outward says whether a direction goes away from 0, whatever lies near.
func outward(direction int, sign bool) bool {
	return direction == api.Up && !sign || direction == api.Down && sign
}

// rounded is the pattern and the flags that a place comes to. It shares no code with the package.
func (f format) rounded(p place, direction int, sign bool) (api.Bits, int) {
	nearest := direction == api.Even || direction == api.Away
	coef, exp := p.coef, p.exp
	if !p.exact && (outward(direction, sign) || nearest && (p.half > 0 || p.half == 0 && (direction == api.Away || coef.Bit(0) == 1))) {
		coef = plus(coef, 1)
	}
	if coef.BitLen() > f.precision {
		coef, exp = two(f.precision-1), exp+1
	}
	switch {
	case exp > f.most && (nearest || outward(direction, sign)):
		return f.signed(f.infinity(), sign), overflow
	case exp > f.most:
		return f.signed(plus(f.infinity(), -1), sign), overflow
	case p.exact:
		return f.signed(f.pattern(coef, exp), sign), 0
	case p.small:
		return f.signed(f.pattern(coef, exp), sign), underflow
	}
	return f.signed(f.pattern(coef, exp), sign), inexact
}

// finite is coef times 2^exp.
type finite struct {
	sign bool
	coef *big.Int
	exp  int
}

// The forms are the chapter's words as they stand; each letter is written out, as the library takes some of other scripts for great or small ones.
var (
	hexText   = regexp.MustCompile(`^([+-]?)0[xX](?:([0-9a-fA-F]+)\.?([0-9a-fA-F]*)|\.([0-9a-fA-F]+))[pP]([+-]?[0-9]+)$`)
	otherText = regexp.MustCompile(`^[+-]?([iI][nN][fF]([iI][nN][iI][tT][yY])?|[sS]?[nN][aA][nN](\([0-9]+\))?)$`)
)

// parsed is the number of a finite hexadecimal text: false if the text is none.
func parsed(s string) (finite, bool) {
	parts := hexText.FindStringSubmatch(s)
	if parts == nil {
		return finite{}, false
	}
	fraction := parts[3] + parts[4]
	coef, _ := new(big.Int).SetString(parts[2]+fraction, 16)
	exp, _ := new(big.Int).SetString(parts[5], 10)
	if bound := int64(billion); exp.CmpAbs(big.NewInt(bound)) > 0 {
		exp = big.NewInt(bound * int64(exp.Sign()))
	}
	return finite{parts[1] == "-", coef, int(exp.Int64()) - 4*len(fraction)}, true
}

// answer is what Read answers of a number.
func (f format) answer(n finite, direction int) (api.Bits, int) {
	if n.coef.Sign() == 0 {
		return f.signed(n.coef, n.sign), 0
	}
	return f.rounded(f.placed(n.coef, n.exp), direction, n.sign)
}

// brief is a text, or, of a long one, how long it is, and its ends.
func brief(s string) string {
	if len(s) <= 90 {
		return strconv.Quote(s)
	}
	return fmt.Sprintf("%d bytes %q..%q", len(s), s[:30], s[len(s)-25:])
}

// writes fails unless the pattern has this text.
func writes(t *testing.T, number int, b api.Bits, want string) {
	t.Helper()
	if text, errno := hexform.Write(number, b); text != want || errno != api.OK {
		t.Errorf("Write(%d, %x): %s %d, not %s", number, b, text, errno, want)
	}
}

// reads fails unless the text reads so.
func reads(t *testing.T, number, direction int, s string, want api.Bits, wantFlags int) {
	t.Helper()
	b, flags, errno := hexform.Read(number, direction, s)
	if b != want || flags != wantFlags || errno != api.OK {
		t.Errorf("Read(%d, %d, %s): %x %d %d, not %x %d", number, direction, brief(s), b, flags, errno, want, wantFlags)
	}
}

// refused fails unless Read answers the error and nothing else.
func refused(t *testing.T, want api.Errno, number, direction int, s string) {
	t.Helper()
	b, flags, errno := hexform.Read(number, direction, s)
	if b != (api.Bits{}) || flags != 0 || errno != want {
		t.Errorf("Read(%d, %d, %s): %x %d %d, not the error %d", number, direction, brief(s), b, flags, errno, want)
	}
}

// back fails unless a text is read as the pattern in all directions, without flags.
func back(t *testing.T, number int, s string, want api.Bits) {
	t.Helper()
	for _, direction := range directions {
		reads(t, number, direction, s, want, 0)
	}
}

// goes fails unless a finite pattern, not 0, is written as the oracle has it, and is read back, with both signs.
func (f format) goes(t *testing.T, pattern *big.Int) {
	t.Helper()
	for _, sign := range bothSigns {
		text := minus(sign) + f.text(pattern)
		writes(t, f.number, f.signed(pattern, sign), text)
		back(t, f.number, text, f.signed(pattern, sign))
	}
}

// check fails unless coef times 2^exp, not 0, is read as the oracle has it, in all directions, with both signs, in several ways.
func (f format) check(t *testing.T, coef *big.Int, exp int) {
	t.Helper()
	f.checkTexts(t, coef, exp, ways(coef, exp)...)
}

// checkTexts is check of the texts, which all are of that number.
func (f format) checkTexts(t *testing.T, coef *big.Int, exp int, texts ...string) {
	t.Helper()
	p := f.placed(coef, exp)
	for _, direction := range directions {
		for _, sign := range bothSigns {
			want, wantFlags := f.rounded(p, direction, sign)
			for _, s := range texts {
				reads(t, f.number, direction, minus(sign)+s, want, wantFlags)
			}
		}
	}
}

// ways are texts of coef times 2^exp: with a point behind all digits, ahead of them and between them, and the same digits one to three bits farther on.
func ways(coef *big.Int, exp int) []string {
	digits := coef.Text(16)
	great := strings.ToUpper(digits)
	size := len(digits)
	half := size / 2
	doubled := new(big.Int).Lsh(coef, uint(1+size%3))
	return []string{
		"0x" + digits + "p" + strconv.Itoa(exp),
		"0X" + great + ".P" + fmt.Sprintf("%+d", exp),
		"0x." + digits + "p" + strconv.Itoa(exp+4*size),
		"0x000" + digits[:half] + "." + great[half:] + "00p" + fmt.Sprintf("%+04d", exp+4*(size-half)),
		"0x" + doubled.Text(16) + "p" + strconv.Itoa(exp-1-size%3),
	}
}

// scattered is a word that follows from its seed alone.
func scattered(seed uint64) uint64 {
	seed = (seed + 1) * 0x9e3779b97f4a7c15
	word := (seed ^ seed>>30) * 0xbf58476d1ce4e5b9
	word = (word ^ word>>27) * 0x94d049bb133111eb
	return word ^ word>>31
}

// drawn is a number below the bound that follows from the seed alone.
func drawn(seed uint64, bound *big.Int) *big.Int {
	n := new(big.Int)
	for i := range uint64(bound.BitLen()/64 + 2) {
		n.Or(n.Lsh(n, 64), new(big.Int).SetUint64(scattered(seed<<10+i)))
	}
	return n.Mod(n, bound)
}

// edges are finite patterns, not 0, without sign: the least ones, those about the greatest subnormal one, about one, and the greatest ones.
func (f format) edges() []*big.Int {
	var list []*big.Int
	for more := range int64(5) {
		list = append(list, big.NewInt(1+more), plus(f.infinity(), -1-more))
		list = append(list, plus(two(f.precision-1), more-2), plus(two(f.precision), more-2), plus(f.power(0), more-2))
	}
	return list
}

// many are so many drawn patterns of each kind: of all finite ones, of subnormal ones, of those about one, and of those with few bits.
func (f format) many(count uint64) []*big.Int {
	var list []*big.Int
	for seed := range count {
		list = append(list, plus(drawn(4*seed, plus(f.infinity(), -1)), 1))
		list = append(list, plus(drawn(4*seed+1, plus(two(f.precision-1), -1)), 1))
		near := f.power(int(scattered(seed)%20) - 10)
		list = append(list, near.Add(near, drawn(4*seed+2, two(f.precision-1))))
		few := new(big.Int).Lsh(drawn(4*seed+3, two(5)), uint(f.precision-6))
		list = append(list, few.Add(few, f.power(f.least+f.precision+int(scattered(seed)%uint64(f.most-f.least)))))
	}
	return list
}
