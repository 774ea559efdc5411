package decimal_test

import (
	"fmt"
	"math"
	"math/big"
	"strings"
	"testing"

	"caliper/api"
	"caliper/decimal"
)

// fields are exponent fields: 0, the greatest, and those about where their two highest bits change.
func (f format) fields() []int {
	greatest := f.most - f.least
	quarter := (greatest + 1) / 3
	list := []int{0, 1, 2, greatest - 1, greatest, greatest / 2, -f.least, -f.least - 1}
	for _, n := range []int{quarter, 2 * quarter} {
		list = append(list, n-1, n, n+1)
	}
	// Each bit of the field alone.
	for n := 1; n < greatest; n *= 2 {
		list = append(list, n)
	}
	return list
}

// tails are Ts: the edges, and scattered ones.
func (f format) tails() []string {
	list := []string{
		strings.Repeat("0", f.t),
		strings.Repeat("0", f.t-1) + "1",
		"1" + strings.Repeat("0", f.t-1),
		strings.Repeat("1", f.t),
		strings.Repeat("10", f.t/2),
	}
	for seed := range uint64(4) {
		list = append(list, fmt.Sprintf("%0*b", f.t, high(seed, f.t)))
	}
	return list
}

// P14.1: finite patterns whose G begins with 00, 01, 10 and 11, with the three bits or the first digit at each of its values.
func TestFinite(t *testing.T) {
	for _, f := range formats {
		begins := map[string]int{}
		for _, field := range f.fields() {
			for lead := range 10 {
				g := f.combined(fmt.Sprintf("%0*b", f.g-3, field), lead)
				begins[g[:2]]++
				for _, tail := range f.tails() {
					b := f.pattern("0" + g + tail)
					if d, _ := f.meaning(b); d.Class != api.Finite || d.Exp != field+f.least {
						t.Fatalf("%x isn't what it was made as: %+v", b, d)
					}
					f.check(t, b)
				}
			}
		}
		if len(begins) != 4 {
			t.Errorf("%d: G begins with %v alone", f.number, begins)
		}
	}
}

// P14.1: every G, with a T that follows from it.
func TestEveryG(t *testing.T) {
	for _, f := range formats {
		classes := map[int]int{}
		for g := range 1 << f.g {
			b := f.pattern(fmt.Sprintf("%b%0*b%0*b", g>>1%2, f.g, g, f.t, high(uint64(g), f.t)))
			want, canonical := f.meaning(b)
			checkUnpack(t, f.number, b, want, canonical)
			checkCanonical(t, f.number, b, f.made(want))
			classes[want.Class]++
		}
		// Of 32 beginnings of G one is infinite and one a NaN.
		part := 1 << f.g / 32
		if classes[api.Infinite] != part || classes[api.NaN] != part || classes[api.Finite] != 30*part {
			t.Errorf("%d: %v", f.number, classes)
		}
	}
}

// P14.1: plain coefficients about 10^P and about every bound of the bits: from 10^P on they count as 0.
func TestPlainCoefficients(t *testing.T) {
	for _, f := range formats[:3] {
		bound := ten(f.precision)
		greatest := plus(new(big.Int).Mul(big.NewInt(10), two(f.t)), -1)
		list := []*big.Int{new(big.Int), plus(bound, -1), bound, plus(bound, 1), greatest, plus(greatest, -1)}
		for n := 1; n < 10; n++ {
			edge := new(big.Int).Mul(big.NewInt(int64(n)), two(f.t))
			list = append(list, plus(edge, -1), edge)
		}
		nought := 0
		for _, coef := range list {
			lead, rest := new(big.Int).DivMod(coef, two(f.t), new(big.Int))
			for _, field := range f.fields() {
				g := f.combined(fmt.Sprintf("%0*b", f.g-3, field), int(lead.Int64()))
				b := f.pattern("0" + g + f.rest(rest))
				want := finite(field + f.least)
				below := coef.Cmp(bound) < 0
				if below {
					want.Coef = toBits(coef)
				} else {
					nought++
				}
				checkUnpack(t, f.number, b, want, below)
				f.check(t, b)
			}
		}
		if nought < 3*len(f.fields()) {
			t.Errorf("%d: only %d coefficients counted as 0", f.number, nought)
		}
	}
}

// P14.1: every pattern of ten bits at every place of a dense pattern, among noughts, nines and others, in numbers and in payloads.
func TestDenseDeclets(t *testing.T) {
	for _, f := range formats[3:] {
		heads := []string{
			"0" + f.combined(fmt.Sprintf("%0*b", f.g-3, -f.least), 7),
			"0" + f.combined(fmt.Sprintf("%0*b", f.g-3, f.most-f.least), 9),
			"0111110" + strings.Repeat("0", f.g-6),
			"0111111" + strings.Repeat("0", f.g-6),
		}
		around := []string{f.rest(new(big.Int)), f.rest(plus(ten(f.precision-1), -1)), strings.Repeat("1", f.t)}
		for d := range 1024 {
			declet := fmt.Sprintf("%010b", d)
			for place := range f.declets {
				for i, head := range heads {
					tail := around[(d+i)%len(around)]
					tail = tail[:10*place] + declet + tail[10*place+10:]
					b := f.pattern(head + tail)
					want, canonical := f.meaning(b)
					checkUnpack(t, f.number, b, want, canonical)
					checkCanonical(t, f.number, b, f.made(want))
				}
			}
		}
	}
}

// P14.1: the 24 declets of no number, each alone at each place, make a pattern not canonical, and mean what another declet means.
func TestDenseNotCanonical(t *testing.T) {
	tried := 0
	for text, meant := range declets {
		if meant.canonical {
			continue
		}
		tried++
		for _, f := range formats[3:] {
			for place := range f.declets {
				worth := new(big.Int).Mul(big.NewInt(int64(meant.n)), ten(3*place))
				tail := strings.Repeat("0", f.t-10*place-10) + text + strings.Repeat("0", 10*place)
				nan := f.pattern("0111110" + strings.Repeat("0", f.g-6) + tail)
				checkUnpack(t, f.number, nan, api.Datum{Class: api.NaN, Coef: toBits(worth)}, false)
				f.check(t, nan)
				for lead := range 10 {
					coef := new(big.Int).Mul(big.NewInt(int64(lead)), ten(f.precision-1))
					b := f.pattern("0" + f.combined(fmt.Sprintf("%0*b", f.g-3, -f.least), lead) + tail)
					checkUnpack(t, f.number, b, api.Datum{Class: api.Finite, Coef: toBits(coef.Add(coef, worth))}, false)
				}
			}
		}
	}
	if tried != 24 {
		t.Errorf("%d patterns aren't canonical", tried)
	}
}

// P14.1: infinities without bits behind the five, with each bit alone, and with many.
func TestInfinite(t *testing.T) {
	for _, f := range formats {
		own := f.pattern("011110" + strings.Repeat("0", f.width-6))
		f.check(t, own)
		checkUnpack(t, f.number, own, infinity, true)
		for place := range f.width - 6 {
			b := toBits(new(big.Int).Or(toBig(own), two(place)))
			checkUnpack(t, f.number, b, infinity, false)
			checkCanonical(t, f.number, b, own)
			f.check(t, b)
			f.check(t, toBits(new(big.Int).Or(toBig(own), plus(two(place+1), -1))))
		}
		for seed := range uint64(200) {
			f.check(t, toBits(new(big.Int).Or(toBig(own), high(seed, f.width-6))))
		}
	}
}

// P14.1: NaNs, quiet and signalling, without bits behind the sixth one, with each alone, and with many.
func TestNaNs(t *testing.T) {
	for _, f := range formats {
		bound := ten(f.precision - 1)
		payloads := []*big.Int{new(big.Int), big.NewInt(1), big.NewInt(999), plus(bound, -1), plus(bound, -2), new(big.Int).Quo(bound, big.NewInt(10))}
		for _, signal := range []bool{false, true} {
			sixth := map[bool]string{false: "0", true: "1"}[signal]
			head := "011111" + sixth + strings.Repeat("0", f.g-6)
			for _, payload := range payloads {
				own := f.pattern(head + f.rest(payload))
				want := api.Datum{Class: api.NaN, Signal: signal, Coef: toBits(payload)}
				checkUnpack(t, f.number, own, want, true)
				f.check(t, own)
				// The bits of G behind the sixth one stand from T on up.
				for place := f.t; place < f.t+f.g-6; place++ {
					b := toBits(new(big.Int).Or(toBig(own), two(place)))
					checkUnpack(t, f.number, b, want, false)
					checkCanonical(t, f.number, b, own)
					f.check(t, b)
				}
				f.check(t, f.pattern(head[:7]+strings.Repeat("1", f.g-6)+f.rest(payload)))
			}
			for _, tail := range f.tails() {
				f.check(t, f.pattern(head+tail))
				f.check(t, f.pattern(head[:7]+strings.Repeat("1", f.g-6)+tail))
			}
		}
	}
}

// P14.1: plain payloads from 10^(P - 1) on count as 0.
func TestPlainPayloads(t *testing.T) {
	for _, f := range formats[:3] {
		bound := ten(f.precision - 1)
		for _, sixth := range []string{"0", "1"} {
			head := "011111" + sixth + strings.Repeat("0", f.g-6)
			own := f.pattern(head + f.rest(new(big.Int)))
			for _, payload := range []*big.Int{bound, plus(bound, 1), plus(two(f.t), -1), plus(two(f.t), -2)} {
				b := f.pattern(head + f.rest(payload))
				checkUnpack(t, f.number, b, api.Datum{Class: api.NaN, Signal: sixth == "1"}, false)
				checkCanonical(t, f.number, b, own)
				f.check(t, b)
			}
		}
	}
}

// P14.1: each bit of a pattern alone, and all below it.
func TestSingleBits(t *testing.T) {
	for _, f := range formats {
		f.check(t, nothing)
		for place := range f.width {
			f.check(t, toBits(two(place)))
			f.check(t, toBits(plus(two(place+1), -1)))
			f.check(t, toBits(new(big.Int).Sub(two(f.width), two(place))))
		}
	}
}

// P14.1, P14.2: many drawn patterns.
func TestDrawnPatterns(t *testing.T) {
	for _, f := range formats {
		canonical := 0
		for seed := range uint64(6000) {
			b := toBits(high(seed+1<<20, f.width))
			f.check(t, b)
			if _, ok, _ := decimal.Unpack(f.number, b); ok {
				canonical++
			}
		}
		if canonical == 0 || canonical == 6000 {
			t.Errorf("%d: %d of the drawn patterns are canonical", f.number, canonical)
		}
	}
}

// coefs are the edges that the chapter has, and bits in the highest words.
func (f format) coefs() []api.Bits {
	list := []api.Bits{{}, {1}, {7}, {8}, {9}, {999}, {1000}, {0, 1}, {0, 0, 1}, {0, 0, 0, 1}, {0, 0, 0, 1 << 63}, {1, 0, 0, 1 << 63}, {ones, ones, ones, ones}}
	for _, n := range []int{f.precision - 2, f.precision - 1, f.precision, f.precision + 1} {
		list = append(list, toBits(plus(ten(n), -1)), toBits(ten(n)), toBits(plus(ten(n), 1)))
	}
	for _, n := range []int{f.t, f.t + 3} {
		list = append(list, toBits(plus(two(n), -1)), toBits(two(n)))
	}
	return list
}

// exps are the edges that the chapter has, those of int, and such as come out in range if they are cut to fewer bits.
func (f format) exps() []int {
	return []int{
		f.least - 1, f.least, f.least + 1, f.most - 1, f.most, f.most + 1, -1, 0, 1,
		f.least - f.precision, f.most + f.precision, f.least + 1<<16, f.most - 1<<16, f.least + 1<<32, f.most - 1<<32, 1 << 32, -1 << 32,
		math.MinInt, math.MinInt + 1, math.MaxInt - 1, math.MaxInt,
	}
}

// data are all that can be made of these, most of them no format's.
func (f format) data() []api.Datum {
	var list []api.Datum
	for _, class := range []int{0, 1, 2, 3, 4, 5, -1, -2, -3, 1<<32 + 1, 257, math.MinInt, math.MaxInt} {
		for _, exp := range f.exps() {
			for _, coef := range f.coefs() {
				for both := range 4 {
					list = append(list, api.Datum{Class: class, Sign: both&1 == 1, Signal: both&2 == 2, Exp: exp, Coef: coef})
				}
			}
		}
	}
	return list
}

// undoes holds Pack of a datum of the format against the oracle, and Unpack against it.
func (f format) undoes(t *testing.T, d api.Datum) api.Bits {
	t.Helper()
	want := f.made(d)
	checkPack(t, f.number, d, want, api.OK)
	checkUnpack(t, f.number, want, d, true)
	checkCanonical(t, f.number, want, want)
	return want
}

// P14.1, P14.2, R5: the pattern of each datum that is the format's, ErrRange for each that isn't; what was packed is unpacked as it was, and two data have two patterns.
func TestPack(t *testing.T) {
	for _, f := range formats {
		kept := map[api.Bits]api.Datum{}
		for _, d := range f.data() {
			if !f.has(d) {
				checkPack(t, f.number, d, nothing, api.ErrRange)
				continue
			}
			b := f.undoes(t, d)
			if other, ok := kept[b]; ok && other != d {
				t.Errorf("%d: %x is %+v and %+v", f.number, b, d, other)
			}
			kept[b] = d
		}
		if len(kept) < 200 {
			t.Errorf("only %d data are those of %d", len(kept), f.number)
		}
	}
}

// P14.2: the cohort of a number: as many patterns as members.
func TestCohorts(t *testing.T) {
	for _, f := range formats {
		seen := map[api.Bits]bool{}
		for shift := range f.precision {
			seen[f.undoes(t, api.Datum{Class: api.Finite, Exp: -shift, Coef: toBits(ten(shift))})] = true
		}
		for exp := f.least; exp <= f.most; exp++ {
			seen[f.undoes(t, finite(exp))] = true
		}
		if want := f.precision + f.most - f.least + 1; len(seen) != want {
			t.Errorf("%d: %d patterns, not %d", f.number, len(seen), want)
		}
	}
}

// P14.1, P14.2: many drawn data, of every length.
func TestDrawnData(t *testing.T) {
	for _, f := range formats {
		kept := map[api.Bits]api.Datum{}
		for seed := range uint64(6000) {
			draw := scattered(seed + 1<<30)
			d := api.Datum{Class: api.Finite, Sign: seed&1 == 1}
			d.Exp = f.least + int(draw.Uint64()%uint64(f.most-f.least+1))
			length := int(seed) % (f.precision + 1)
			d.Coef = toBits(new(big.Int).Mod(new(big.Int).Rsh(draw, 64), ten(length)))
			if seed%5 == 4 && length < f.precision {
				d.Class, d.Signal, d.Exp = api.NaN, seed&2 == 2, 0
			}
			b := f.undoes(t, d)
			if other, ok := kept[b]; ok && other != d {
				t.Errorf("%d: %x is %+v and %+v", f.number, b, d, other)
			}
			kept[b] = d
			// Beyond the bounds nothing is packed.
			d.Coef = toBits(new(big.Int).Add(ten(f.precision), toBig(d.Coef)))
			checkPack(t, f.number, d, nothing, api.ErrRange)
		}
	}
}

// P14.1: dense and plain formats of one width have the same data.
func TestTwins(t *testing.T) {
	for i, f := range formats[:3] {
		twin := formats[i+3]
		for _, d := range f.data() {
			_, plain := decimal.Pack(f.number, d)
			_, dense := decimal.Pack(twin.number, d)
			if plain != dense {
				t.Errorf("%+v: %d of %d, %d of %d", d, plain, f.number, dense, twin.number)
			}
		}
	}
}
