package declet_test

import (
	"fmt"
	"math"
	"math/big"
	"strconv"
	"strings"
	"testing"

	"caliper/api"
	"caliper/declet"
)

// row is one of the chapter's table: A, B and C stand for two bits of a, b and c.
type row struct {
	great, pq, st, vwx string
}

// The rows are the chapter's, in its order.
var rows = []row{
	{"", "A", "B", "0C"},
	{"c", "A", "B", "100"},
	{"b", "A", "C", "101"},
	{"a", "C", "B", "110"},
	{"bc", "A", "10", "111"},
	{"ac", "B", "01", "111"},
	{"ab", "C", "00", "111"},
	{"abc", "00", "11", "111"},
}

// written is the declet of three digits, as ten letters. It goes by the chapter's words, bit by bit as letters, and shares no arithmetic with the package.
func written(n int) string {
	a, b, c := fourBits(n/100), fourBits(n/10%10), fourBits(n%10)
	great := ""
	for i, digit := range []string{a, b, c} {
		if digit[0] == '1' {
			great += "abc"[i : i+1]
		}
	}
	fill := strings.NewReplacer("A", a[1:3], "B", b[1:3], "C", c[1:3])
	for _, r := range rows {
		if r.great == great {
			return fill.Replace(r.pq + a[3:] + r.st + b[3:] + r.vwx + c[3:])
		}
	}
	panic("no row has the great digits " + great)
}

func fourBits(digit int) string { return fmt.Sprintf("%04b", digit) }

// tenBits is a pattern as ten letters.
func tenBits(d int) string { return fmt.Sprintf("%010b", d) }

// number is what letters of bits are as a number.
func number(bits string) int {
	n, err := strconv.ParseInt(bits, 2, 64)
	if err != nil {
		panic(err)
	}
	return int(n)
}

// said is whether a pattern's v w x, and where they are 1 1 1 its s t, say this row.
func (r row) said(d string) bool {
	st, vwx := d[3:5], d[6:9]
	if vwx == "111" {
		return r.vwx == vwx && r.st == st
	}
	return r.vwx == vwx || r.vwx == "0C" && vwx[0] == '0'
}

// rowOf is which row a pattern's bits say.
func rowOf(d string) int {
	for i, r := range rows {
		if r.said(d) {
			return i
		}
	}
	panic("no row is said by " + d)
}

// meant is the number that ten letters of bits mean, by the chapter's words.
func meant(d string) int {
	r := rows[rowOf(d)]
	pairs := map[string]string{r.pq: d[0:2], r.st: d[3:5]}
	if r.vwx == "0C" {
		pairs["C"] = d[7:9]
	}
	sum := 0
	for i, low := range []string{d[2:3], d[5:6], d[9:10]} {
		digit := "0" + pairs["ABC"[i:i+1]] + low
		if strings.Contains(r.great, "abc"[i:i+1]) {
			digit = "100" + low
		}
		sum = 10*sum + number(digit)
	}
	return sum
}

// thousands is 1000^count.
func thousands(count int) *big.Int {
	return new(big.Int).Exp(big.NewInt(1000), big.NewInt(int64(count)), nil)
}

func two(n int) *big.Int { return new(big.Int).Lsh(big.NewInt(1), uint(n)) }

func plus(n *big.Int, more int64) *big.Int { return new(big.Int).Add(n, big.NewInt(more)) }

func toBits(n *big.Int) api.Bits {
	var b api.Bits
	for i := range b {
		b[i] = new(big.Int).Rsh(n, uint(64*i)).Uint64()
	}
	return b
}

func toBig(b api.Bits) *big.Int {
	sum := new(big.Int)
	for i := len(b) - 1; i >= 0; i-- {
		sum.Lsh(sum, 64)
		sum.Or(sum, new(big.Int).SetUint64(b[i]))
	}
	return sum
}

// packed is the declets of a coefficient that is below 1000^count, digit by digit of its text.
func packed(coef *big.Int, count int) api.Bits {
	text := strings.Repeat("0", 3*count) + coef.String()
	text = text[len(text)-3*count:]
	bits := "0"
	for ; text != ""; text = text[3:] {
		three, _ := strconv.Atoi(text[:3])
		bits += written(three)
	}
	n, _ := new(big.Int).SetString(bits, 2)
	return toBits(n)
}

// unpacked is the number that a pattern means that has no bits beyond its declets, text by text.
func unpacked(pattern *big.Int, count int) api.Bits {
	bits := strings.Repeat("0", 10*count) + pattern.Text(2)
	bits = bits[len(bits)-10*count:]
	text := "0"
	for ; bits != ""; bits = bits[10:] {
		text += fmt.Sprintf("%03d", meant(bits[:10]))
	}
	n, _ := new(big.Int).SetString(text, 10)
	return toBits(n)
}

// drawn is a number of 256 bits that follows from its seed alone.
func drawn(seed uint64) *big.Int {
	var b api.Bits
	seed *= uint64(len(b))
	for i := range b {
		word := (seed + uint64(i) + 1) * 0x9e3779b97f4a7c15
		word = (word ^ word>>30) * 0xbf58476d1ce4e5b9
		word = (word ^ word>>27) * 0x94d049bb133111eb
		b[i] = word ^ word>>31
	}
	return toBig(b)
}

// outside are numbers just beyond 0 to most, ones far beyond, and ones that come back within if their high bits are lost.
func outside(most int) []int {
	return []int{-1, -2, -most, -most - 1, most + 1, most + 2, 2*most + 1, 1 << 16, 1<<32 + 1, -1<<32 + 1, math.MinInt, math.MinInt + 1, math.MinInt + 5, math.MaxInt, math.MaxInt - 1}
}

func checkEncode(t *testing.T, n, want int, wantErrno api.Errno) {
	t.Helper()
	if d, errno := declet.Encode(n); d != want || errno != wantErrno {
		t.Errorf("Encode(%d): %d, %d; want %d, %d", n, d, errno, want, wantErrno)
	}
}

func checkDecode(t *testing.T, d, want int, wantErrno api.Errno) {
	t.Helper()
	if n, errno := declet.Decode(d); n != want || errno != wantErrno {
		t.Errorf("Decode(%d): %d, %d; want %d, %d", d, n, errno, want, wantErrno)
	}
}

func checkCanonical(t *testing.T, d int, want bool) {
	t.Helper()
	if got := declet.Canonical(d); got != want {
		t.Errorf("Canonical(%d): %v; want %v", d, got, want)
	}
}

func checkPack(t *testing.T, coef api.Bits, count int, want api.Bits, wantErrno api.Errno) {
	t.Helper()
	if b, errno := declet.Pack(coef, count); b != want || errno != wantErrno {
		t.Errorf("Pack(%d, %d): %x, %d; want %x, %d", toBig(coef), count, b, errno, want, wantErrno)
	}
}

func checkUnpack(t *testing.T, b api.Bits, count int, want api.Bits, wantErrno api.Errno) {
	t.Helper()
	if coef, errno := declet.Unpack(b, count); coef != want || errno != wantErrno {
		t.Errorf("Unpack(%x, %d): %d, %d; want %d, %d", b, count, toBig(coef), errno, toBig(want), wantErrno)
	}
}
