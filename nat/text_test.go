package nat_test

import (
	"math/big"
	"slices"
	"strings"
	"testing"

	"caliper/api"
	"caliper/nat"
)

func TestP2_4_Digits(t *testing.T) {
	for _, a := range samples() {
		if got, e := nat.Digits(a); got != toBig(a).String() || e != api.OK {
			t.Errorf("Digits(%x): %q, %d", a, got, e)
		}
	}
	// Round numbers, where whole parts are noughts, and those one below them.
	for n := range 100 {
		power := new(big.Int).Exp(big.NewInt(10), big.NewInt(int64(n)), nil)
		a, _ := nat.Power(10, n)
		if got, e := nat.Digits(a); got != power.String() || e != api.OK {
			t.Errorf("Digits of 10^%d: %q, %d", n, got, e)
		}
		below, _ := nat.Sub(a, []uint64{1})
		if got, e := nat.Digits(below); got != power.Sub(power, big.NewInt(1)).String() || e != api.OK {
			t.Errorf("Digits of 10^%d - 1: %q, %d", n, got, e)
		}
	}
}

func TestP2_4_DigitsEdges(t *testing.T) {
	for _, a := range [][]uint64{nil, {}, {0}, {0, 0}, make([]uint64, 3*api.MostLimbs)} {
		if got, e := nat.Digits(a); got != "0" || e != api.OK {
			t.Errorf("Digits of 0 in %d words: %q, %d", len(a), got, e)
		}
	}
	greatest := filled(api.MostLimbs, most)
	if got, e := nat.Digits(padded(greatest, 7)); got != toBig(greatest).String() || e != api.OK {
		t.Errorf("Digits of MostLimbs words: %d digits, %d", len(got), e)
	}
	for _, long := range [][]uint64{filled(api.MostLimbs+1, 1), single(64 * api.MostLimbs)} {
		if got, e := nat.Digits(long); got != "" || e != api.ErrLong {
			t.Errorf("Digits of %d words: %d digits, %d", len(long), len(got), e)
		}
	}
}

func checkRead(t *testing.T, s string) {
	t.Helper()
	want, _ := new(big.Int).SetString(s, 10)
	if got, e := nat.Read(s); e != api.OK || !same(got, want) {
		t.Errorf("Read of %d digits: %x, %d", len(s), got, e)
	}
}

func TestP2_4_Read(t *testing.T) {
	for _, a := range samples() {
		checkRead(t, toBig(a).String())
		checkRead(t, "000"+toBig(a).String())
	}
	for n := 1; n < 100; n++ {
		for _, digit := range []string{"0", "1", "9"} {
			checkRead(t, strings.Repeat(digit, n))
		}
		checkRead(t, "1"+strings.Repeat("0", n))
		checkRead(t, strings.Repeat("1234567890", n)[:n])
	}
}

func TestP2_4_ReadEdges(t *testing.T) {
	last := api.MostPower
	for _, s := range []string{"9", "1", strings.Repeat("0", 40) + "7", "3" + strings.Repeat("0", 40)} {
		long := strings.Repeat(s, last)[:last]
		checkRead(t, long)
		if got, e := nat.Read(long + "0"); len(got) != 0 || e != api.ErrLong {
			t.Errorf("Read of one digit too many: %d words, %d", len(got), e)
		}
	}
	noughts := strings.Repeat("0", last-1)
	if got, e := nat.Read(noughts + "7"); !slices.Equal(got, []uint64{7}) || e != api.OK {
		t.Errorf("Read of leading noughts: %x, %d", got, e)
	}
	if got, e := nat.Read(noughts + "0"); len(got) != 0 || e != api.OK {
		t.Errorf("Read of noughts alone: %x, %d", got, e)
	}
	// A leading nought is a digit of the text all the same.
	if got, e := nat.Read(noughts + "07"); len(got) != 0 || e != api.ErrLong {
		t.Errorf("Read of noughts and one digit too many: %x, %d", got, e)
	}
}

func TestP2_4_ReadErrors(t *testing.T) {
	digits := strings.Repeat("1", api.MostPower)
	for _, s := range []string{
		"", " ", "-", "+", "-1", "+1", " 1", "1 ", "1_0", "1a", "a1", "1.0", "0x10", "1e5", "1\n", "1\x00", "\xff", "1/", "1:",
		"٣", "１", "1é", digits + "a", "a" + digits, digits + digits + " ",
	} {
		if got, e := nat.Read(s); len(got) != 0 || e != api.ErrForm {
			t.Errorf("Read(%.20q) of %d bytes: %x, %d", s, len(s), got, e)
		}
	}
	for i := range 256 {
		s := "12" + string([]byte{byte(i)}) + "34"
		want := api.ErrForm
		if i >= '0' && i <= '9' {
			want = api.OK
		}
		if got, e := nat.Read(s); e != want || e != api.OK && len(got) != 0 {
			t.Errorf("Read(%q): %x, %d", s, got, e)
		}
	}
}
