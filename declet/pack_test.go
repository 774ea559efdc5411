package declet_test

import (
	"math"
	"math/big"
	"strings"
	"testing"

	"caliper/api"
	"caliper/declet"
)

const (
	most = 11
	ones = math.MaxUint64
)

var nothing api.Bits

// parsed is a coefficient by its text.
func parsed(text string) api.Bits {
	n, ok := new(big.Int).SetString(text, 10)
	if !ok {
		panic("no number: " + text)
	}
	return toBits(n)
}

// packs holds Pack and Unpack of a coefficient below 1000^count against the oracle, and against each other.
func packs(t *testing.T, coef *big.Int, count int) {
	t.Helper()
	want := packed(coef, count)
	checkPack(t, toBits(coef), count, want, api.OK)
	checkUnpack(t, want, count, toBits(coef), api.OK)
	if count < most {
		// The declet that comes in is that of 0, which is 0.
		checkPack(t, toBits(coef), count+1, want, api.OK)
		checkUnpack(t, want, count+1, toBits(coef), api.OK)
	}
}

// unpacks holds Unpack of a pattern that has no bits beyond its declets against the oracle.
func unpacks(t *testing.T, pattern *big.Int, count int) {
	t.Helper()
	want := unpacked(pattern, count)
	checkUnpack(t, toBits(pattern), count, want, api.OK)
	if count < most {
		checkUnpack(t, toBits(pattern), count+1, want, api.OK)
	}
}

// P13.2: declets written out by hand: they don't hang on the oracle.
func TestP13_2_ByHand(t *testing.T) {
	for _, c := range []struct {
		coef  string
		count int
		b     api.Bits
	}{
		{"0", 0, api.Bits{}},
		{"0", 1, api.Bits{}},
		{"0", 11, api.Bits{}},
		{"5", 1, api.Bits{5}},
		{"999", 1, api.Bits{0x0ff}},
		{"999", 2, api.Bits{0x0ff}},
		{"1000", 2, api.Bits{1 << 10}},
		{"999005", 2, api.Bits{0x0ff<<10 | 5}},
		{"5999", 2, api.Bits{5<<10 | 0x0ff}},
		{"80555", 2, api.Bits{0x00a<<10 | 0x2d5}},
		{"123000079", 3, api.Bits{0x0a3<<20 | 0x079}},
		{"999999999999999", 5, api.Bits{0x0ff | 0x0ff<<10 | 0x0ff<<20 | 0x0ff<<30 | 0x0ff<<40}},
		// Of the seventh declet four bits are the first word's, and six the next one's.
		{"1000000000000000000", 7, api.Bits{1 << 60}},
		{"10000000000000000000", 7, api.Bits{0, 1}},
		{"800000000000000000000", 7, api.Bits{0xc << 60}},
		{"777000000000000000000", 7, api.Bits{7 << 60, 0x3f}},
		{"999000000000000000000", 7, api.Bits{0xf << 60, 0xf}},
		{"777099000000000000000999", 8, api.Bits{0xf<<60 | 0xff, 0x3f7<<6 | 5}},
		// A 1 in the eighth and in the eleventh declet, and nines throughout.
		{"1000000000000000000000", 8, api.Bits{0, 1 << 6}},
		{"1000000000000000000000000000000", 11, api.Bits{0, 1 << 36}},
		{"999999999999999999999999999999999", 11, api.Bits{0xf3fcff3fcff3fcff, 0xff3fcff3fcf}},
	} {
		checkPack(t, parsed(c.coef), c.count, c.b, api.OK)
		checkUnpack(t, c.b, c.count, parsed(c.coef), api.OK)
	}
}

// P13.2: the coefficients about each count's bounds.
func TestP13_2_Bounds(t *testing.T) {
	for count := 0; count <= most; count++ {
		bound := thousands(count)
		for _, coef := range []*big.Int{new(big.Int), big.NewInt(1), big.NewInt(999), big.NewInt(1000), plus(bound, -1), plus(bound, -2)} {
			if coef.Sign() < 0 {
				continue
			}
			if coef.Cmp(bound) < 0 {
				packs(t, coef, count)
			} else {
				checkPack(t, toBits(coef), count, nothing, api.ErrRange)
			}
		}
		for _, coef := range []*big.Int{bound, plus(bound, 1), plus(bound, 999), thousands(count + 1), plus(thousands(count+1), -1), two(10 * count), two(10*count + 1)} {
			checkPack(t, toBits(coef), count, nothing, api.ErrRange)
		}
	}
}

// P13.2: powers of ten and of two, and one fewer, as far as they are below each bound and beyond it.
func TestP13_2_Powers(t *testing.T) {
	var list []*big.Int
	for n := range 256 {
		list = append(list, two(n), plus(two(n), -1))
	}
	for ten := big.NewInt(1); ten.BitLen() <= 256; ten = new(big.Int).Mul(ten, big.NewInt(10)) {
		list = append(list, ten, plus(ten, -1), plus(ten, 1))
	}
	for count := 0; count <= most; count++ {
		for _, coef := range list {
			if coef.Cmp(thousands(count)) < 0 {
				packs(t, coef, count)
			} else {
				checkPack(t, toBits(coef), count, nothing, api.ErrRange)
			}
		}
	}
}

// P13.2, R5: coefficients with bits in high words, which no count holds, even where all lower words are 0.
func TestP13_2_HighWords(t *testing.T) {
	for count := 0; count <= most; count++ {
		for _, coef := range []api.Bits{
			{0, 0, 1}, {0, 0, 1 << 63}, {0, 0, 0, 1}, {0, 0, 0, 1 << 63}, {5, 0, 0, 1}, {0, 0, 0, ones}, {0, 0, ones, 0},
			{ones, ones, ones, ones}, {0, 1 << 46}, {0, 1 << 63}, {0, ones}, {ones, ones},
		} {
			checkPack(t, coef, count, nothing, api.ErrRange)
		}
	}
}

// P13.2: every number of three digits at every place, alone and among others.
func TestP13_2_EveryPlace(t *testing.T) {
	for n := range 1000 {
		for place := range most {
			coef := new(big.Int).Mul(big.NewInt(int64(n)), thousands(place))
			packs(t, coef, place+1)
			packs(t, coef, most)
		}
		three := written(n)
		for count := 1; count <= most; count++ {
			pattern, _ := new(big.Int).SetString(strings.Repeat(three, count), 2)
			unpacks(t, pattern, count)
		}
	}
}

// P13.2: many drawn coefficients, of every length, within each count.
func TestP13_2_Drawn(t *testing.T) {
	for count := 0; count <= most; count++ {
		for seed := range uint64(1000) {
			coef := drawn(seed)
			packs(t, new(big.Int).Mod(coef, thousands(count)), count)
			shorter := new(big.Int).Rsh(coef, uint(256-int(seed)%(10*count+1)))
			packs(t, new(big.Int).Mod(shorter, thousands(count)), count)
			beyond := new(big.Int).Add(thousands(count), new(big.Int).Mod(coef, thousands(count+1)))
			checkPack(t, toBits(beyond), count, nothing, api.ErrRange)
			checkPack(t, toBits(coef), count, nothing, api.ErrRange)
		}
	}
}

// P13.2: the highest bit within the declets, and the first one beyond them; every single bit, alone and above all lower ones.
func TestP13_2_UnpackBounds(t *testing.T) {
	for count := 0; count <= most; count++ {
		for place := range 256 {
			for _, pattern := range []*big.Int{two(place), plus(two(place), 1), plus(two(place+1), -1)} {
				if pattern.BitLen() <= 10*count {
					unpacks(t, pattern, count)
				} else {
					checkUnpack(t, toBits(pattern), count, nothing, api.ErrRange)
				}
			}
		}
		unpacks(t, plus(two(10*count), -1), count)
		checkUnpack(t, toBits(two(10*count)), count, nothing, api.ErrRange)
		checkUnpack(t, api.Bits{ones, ones, ones, ones}, count, nothing, api.ErrRange)
		checkUnpack(t, api.Bits{0, 0, 0, ones}, count, nothing, api.ErrRange)
	}
}

// P13.2: patterns whose declets aren't canonical, at every place, among noughts, nines and each other. They mean what the canonical ones mean, and those are what is packed.
func TestP13_2_NotCanonical(t *testing.T) {
	tried := 0
	for d := range 1024 {
		if declet.Canonical(d) {
			continue
		}
		tried++
		for place := range most {
			alone := new(big.Int).Lsh(big.NewInt(int64(d)), uint(10*place))
			for count := place + 1; count <= most; count++ {
				unpacks(t, alone, count)
				full := new(big.Int).Or(toBig(packed(plus(thousands(count), -1), count)), alone)
				unpacks(t, full, count)
			}
			coef, _ := declet.Unpack(toBits(alone), most)
			own := new(big.Int).Lsh(big.NewInt(int64(d%256)), uint(10*place))
			checkPack(t, coef, most, toBits(own), api.OK)
		}
		for count := 1; count <= most; count++ {
			pattern, _ := new(big.Int).SetString(strings.Repeat(tenBits(d), count), 2)
			unpacks(t, pattern, count)
		}
	}
	if tried != 24 {
		t.Errorf("%d patterns aren't canonical", tried)
	}
	// All ones are nines throughout.
	checkUnpack(t, api.Bits{ones, 1<<46 - 1}, most, parsed(strings.Repeat("9", 33)), api.OK)
}

// P13.2: many drawn patterns, of every length, within each count and beyond it.
func TestP13_2_UnpackDrawn(t *testing.T) {
	for count := 0; count <= most; count++ {
		for seed := range uint64(1000) {
			pattern := drawn(seed + 1<<20)
			within := new(big.Int).Mod(pattern, two(10*count))
			unpacks(t, within, count)
			unpacks(t, new(big.Int).Rsh(within, uint(int(seed)%(10*count+1))), count)
			checkUnpack(t, toBits(new(big.Int).Or(within, two(10*count))), count, nothing, api.ErrRange)
			checkUnpack(t, toBits(new(big.Int).Or(within, two(10*count+int(seed)%(256-10*count)))), count, nothing, api.ErrRange)
			checkUnpack(t, toBits(pattern), count, nothing, api.ErrRange)
		}
	}
}

// P13.2, R5, R6: counts that are none, alone and together with what is too great for any count.
func TestP13_2_Counts(t *testing.T) {
	for _, count := range append(outside(most), 13, 16, 22, 25, 26, 33, 100, 256, 1<<31-1, 1<<32+11, math.MaxInt/10, math.MinInt/10) {
		for _, b := range []api.Bits{{}, {1}, {999}, {1000}, {1023}, {1024}, {0, 1 << 45}, {0, 1 << 46}, {0, 0, 1}, {0, 0, 0, 1 << 63}, {ones, ones, ones, ones}} {
			checkPack(t, b, count, nothing, api.ErrArg)
			checkUnpack(t, b, count, nothing, api.ErrArg)
		}
	}
	for count := 0; count <= most; count++ {
		checkPack(t, nothing, count, nothing, api.OK)
		checkUnpack(t, nothing, count, nothing, api.OK)
	}
	// No declets hold 0 alone.
	checkPack(t, api.Bits{1}, 0, nothing, api.ErrRange)
	checkUnpack(t, api.Bits{1}, 0, nothing, api.ErrRange)
}
