package limbs_test

import (
	"math"
	"math/big"
	"testing"

	"caliper/limbs"
)

const most = math.MaxUint64

// bitsOf is N, by a way that is not the package's own.
func bitsOf[W limbs.Width]() int {
	var a W
	return 64 * len(a)
}

// toBig brings math/big in as the oracle: it shares no code with the package.
func toBig[W limbs.Width](a W) *big.Int {
	sum := new(big.Int)
	for i := len(a) - 1; i >= 0; i-- {
		sum.Lsh(sum, 64)
		sum.Or(sum, new(big.Int).SetUint64(a[i]))
	}
	return sum
}

func modulus[W limbs.Width]() *big.Int {
	return new(big.Int).Lsh(big.NewInt(1), uint(bitsOf[W]()))
}

// same says whether got is want modulo 2^N (Mod's answer is never below 0).
func same[W limbs.Width](got W, want *big.Int) bool {
	return toBig(got).Cmp(new(big.Int).Mod(want, modulus[W]())) == 0
}

func full[W limbs.Width]() W {
	var a W
	for i := range len(a) {
		a[i] = most
	}
	return a
}

// single is 2^n.
func single[W limbs.Width](n int) W {
	var a W
	a[n/64] = 1 << (n % 64)
	return a
}

// scattered fills a number with words that follow from its seed alone.
func scattered[W limbs.Width](seed uint64) W {
	var a W
	for i := range len(a) {
		seed += 0x9e3779b97f4a7c15
		word := (seed ^ seed>>30) * 0xbf58476d1ce4e5b9
		word = (word ^ word>>27) * 0x94d049bb133111eb
		a[i] = word ^ word>>31
	}
	return a
}

// samples are numbers of one width: the ends, each word's own ends, long runs of carries, and scattered ones.
func samples[W limbs.Width]() []W {
	var none W
	size := len(none)
	list := []W{none, full[W]()}
	for i := range size {
		low, high, alone, hole := none, none, none, full[W]()
		for k := 0; k <= i; k++ {
			low[k] = most
			high[size-1-k] = most
		}
		alone[i] = most
		hole[i] = 0
		list = append(list, low, high, alone, hole, single[W](64*i), single[W](64*i+63))
	}
	for seed := range uint64(8) {
		list = append(list, scattered[W](seed))
	}
	return list
}

func words() []uint64 {
	return []uint64{1, 2, 3, 7, 10, 1 << 31, 1<<32 - 1, 1 << 32, 1 << 63, 1<<63 + 1, most - 1, most, 0x9e3779b97f4a7c15}
}

// shifts are those that the chapter names, and all between.
func shifts[W limbs.Width]() []int {
	n := bitsOf[W]()
	list := []int{math.MinInt, math.MinInt + 1, -n, -64, -63, -1, n, n + 1, n + 63, n + 64, 2 * n, 1 << 20, math.MaxInt - 1, math.MaxInt}
	for k := range n {
		list = append(list, k)
	}
	return list
}

func checkOf[W limbs.Width](t *testing.T) {
	for _, n := range append(words(), 0) {
		if got := limbs.Of[W](n); toBig(got).Cmp(new(big.Int).SetUint64(n)) != 0 {
			t.Errorf("Of(%d): %v", n, got)
		}
	}
}

func checkSums[W limbs.Width](t *testing.T) {
	for _, a := range samples[W]() {
		for _, b := range samples[W]() {
			sum := new(big.Int).Add(toBig(a), toBig(b))
			got, carry := limbs.Add(a, b)
			if !same(got, sum) || carry != uint64(sum.Bit(bitsOf[W]())) {
				t.Errorf("Add(%x, %x): %x, %d", a, b, got, carry)
			}
			difference := new(big.Int).Sub(toBig(a), toBig(b))
			got, borrow := limbs.Sub(a, b)
			if !same(got, difference) || (borrow == 1) != (difference.Sign() < 0) || borrow > 1 {
				t.Errorf("Sub(%x, %x): %x, %d", a, b, got, borrow)
			}
		}
	}
}

func checkSumEdges[W limbs.Width](t *testing.T) {
	var none W
	one := limbs.Of[W](1)
	if got, carry := limbs.Add(full[W](), one); got != none || carry != 1 {
		t.Errorf("a carry out of the highest word: %x, %d", got, carry)
	}
	if got, carry := limbs.Add(full[W](), none); got != full[W]() || carry != 0 {
		t.Errorf("no carry beside 0: %x, %d", got, carry)
	}
	lessOne := full[W]()
	lessOne[0]--
	if got, carry := limbs.Add(full[W](), full[W]()); got != lessOne || carry != 1 {
		t.Errorf("the greatest sum: %x, %d", got, carry)
	}
	if got, borrow := limbs.Sub(none, one); got != full[W]() || borrow != 1 {
		t.Errorf("a borrow out of the highest word: %x, %d", got, borrow)
	}
	if got, borrow := limbs.Sub(none, full[W]()); got != one || borrow != 1 {
		t.Errorf("the least difference: %x, %d", got, borrow)
	}
	if got, borrow := limbs.Sub(full[W](), full[W]()); got != none || borrow != 0 {
		t.Errorf("a number less itself: %x, %d", got, borrow)
	}
}

func checkCmp[W limbs.Width](t *testing.T) {
	for _, a := range samples[W]() {
		for _, b := range samples[W]() {
			if got, want := limbs.Cmp(a, b), toBig(a).Cmp(toBig(b)); got != want {
				t.Errorf("Cmp(%x, %x): %d, not %d", a, b, got, want)
			}
		}
	}
}

func checkShifts[W limbs.Width](t *testing.T) {
	n := bitsOf[W]()
	var none W
	for _, a := range samples[W]() {
		for _, k := range shifts[W]() {
			up, down := limbs.Shl(a, k), limbs.Shr(a, k)
			switch {
			case k < 1:
				if up != a || down != a {
					t.Errorf("%x by %d: %x, %x", a, k, up, down)
				}
			case k >= n:
				if up != none || down != none {
					t.Errorf("%x by %d: %x, %x", a, k, up, down)
				}
			default:
				if !same(up, new(big.Int).Lsh(toBig(a), uint(k))) {
					t.Errorf("Shl(%x, %d): %x", a, k, up)
				}
				if !same(down, new(big.Int).Rsh(toBig(a), uint(k))) {
					t.Errorf("Shr(%x, %d): %x", a, k, down)
				}
			}
		}
	}
}

func checkShiftEdges[W limbs.Width](t *testing.T) {
	n := bitsOf[W]()
	one, top := limbs.Of[W](1), single[W](n-1)
	if limbs.Shl(full[W](), n-1) != top || limbs.Shr(full[W](), n-1) != one {
		t.Error("shifts by N - 1")
	}
	for k := 0; k < n; k += 64 {
		if limbs.Shl(one, k) != single[W](k) || limbs.Shr(top, k) != single[W](n-1-k) {
			t.Errorf("shifts by %d, a multiple of 64", k)
		}
	}
}

func checkLenAndBit[W limbs.Width](t *testing.T) {
	n := bitsOf[W]()
	for _, a := range samples[W]() {
		if got, want := limbs.Len(a), toBig(a).BitLen(); got != want {
			t.Errorf("Len(%x): %d, not %d", a, got, want)
		}
		for k := range n {
			if got, want := limbs.Bit(a, k), toBig(a).Bit(k); got != want {
				t.Errorf("Bit(%x, %d): %d, not %d", a, k, got, want)
			}
		}
	}
	for k := range n {
		if got := limbs.Len(single[W](k)); got != k+1 {
			t.Errorf("Len of 2^%d: %d", k, got)
		}
	}
	var none W
	if got := limbs.Len(none); got != 0 {
		t.Errorf("Len of 0: %d", got)
	}
	for _, k := range []int{math.MinInt, -n, -64, -63, -1, n, n + 1, n + 63, n + 64, 2 * n, 1 << 20, math.MaxInt} {
		if got := limbs.Bit(full[W](), k); got != 0 {
			t.Errorf("Bit at %d, where there is none: %d", k, got)
		}
	}
}

func checkProducts[W limbs.Width](t *testing.T) {
	for _, a := range samples[W]() {
		for _, n := range append(words(), 0) {
			product := new(big.Int).Mul(toBig(a), new(big.Int).SetUint64(n))
			beyond := new(big.Int).Rsh(product, uint(bitsOf[W]()))
			got, word := limbs.Mul(a, n)
			if !same(got, product) || word != beyond.Uint64() {
				t.Errorf("Mul(%x, %d): %x, %d", a, n, got, word)
			}
		}
	}
}

func checkProductEdges[W limbs.Width](t *testing.T) {
	var none W
	// (2^N - 1) times (2^64 - 1) is (2^64 - 2) times 2^N, and 2^N - 2^64 + 1.
	want := full[W]()
	want[0] = 1
	if got, word := limbs.Mul(full[W](), most); got != want || word != most-1 {
		t.Errorf("the greatest product: %x, %x", got, word)
	}
	if got, word := limbs.Mul(single[W](bitsOf[W]()-1), 2); got != none || word != 1 {
		t.Errorf("2^(N - 1) times 2: %x, %x", got, word)
	}
	if got, word := limbs.Mul(full[W](), 1); got != full[W]() || word != 0 {
		t.Errorf("times 1: %x, %x", got, word)
	}
	if got, word := limbs.Mul(full[W](), 0); got != none || word != 0 {
		t.Errorf("times 0: %x, %x", got, word)
	}
}

func checkQuotients[W limbs.Width](t *testing.T) {
	for _, a := range samples[W]() {
		for _, n := range words() {
			quotient, rest := new(big.Int).QuoRem(toBig(a), new(big.Int).SetUint64(n), new(big.Int))
			got, left := limbs.Div(a, n)
			if !same(got, quotient) || left != rest.Uint64() {
				t.Errorf("Div(%x, %d): %x, %d", a, n, got, left)
			}
		}
		var none W
		if got, left := limbs.Div(a, 0); got != none || left != 0 {
			t.Errorf("Div(%x, 0): %x, %d", a, got, left)
		}
	}
	if got, left := limbs.Div(limbs.Of[W](100), 7); got != limbs.Of[W](14) || left != 2 {
		t.Errorf("Div(100, 7): %x, %d", got, left)
	}
}

func checkP11[W limbs.Width](t *testing.T) {
	t.Run("Of", checkOf[W])
	t.Run("Add and Sub", checkSums[W])
	t.Run("Add and Sub at the edges", checkSumEdges[W])
	t.Run("Cmp", checkCmp[W])
	t.Run("Shl and Shr", checkShifts[W])
	t.Run("Shl and Shr at the edges", checkShiftEdges[W])
}

func checkP12[W limbs.Width](t *testing.T) {
	t.Run("Len and Bit", checkLenAndBit[W])
	t.Run("Mul", checkProducts[W])
	t.Run("Mul at the edges", checkProductEdges[W])
	t.Run("Div", checkQuotients[W])
}

func TestP1_1(t *testing.T) {
	t.Run("1 word", checkP11[[1]uint64])
	t.Run("2 words", checkP11[[2]uint64])
	t.Run("4 words", checkP11[[4]uint64])
	t.Run("8 words", checkP11[[8]uint64])
}

func TestP1_2(t *testing.T) {
	t.Run("1 word", checkP12[[1]uint64])
	t.Run("2 words", checkP12[[2]uint64])
	t.Run("4 words", checkP12[[4]uint64])
	t.Run("8 words", checkP12[[8]uint64])
}

// The chapter's examples, in plain words of the answers.
func TestExamples(t *testing.T) {
	if got, carry := limbs.Add([1]uint64{most}, [1]uint64{1}); got != [1]uint64{0} || carry != 1 {
		t.Error(got, carry)
	}
	if got, carry := limbs.Add([2]uint64{most, 0}, [2]uint64{1, 0}); got != [2]uint64{0, 1} || carry != 0 {
		t.Error(got, carry)
	}
	if got, rest := limbs.Div([1]uint64{100}, 7); got != [1]uint64{14} || rest != 2 {
		t.Error(got, rest)
	}
}

// The lowest word stands first: said without the oracle, which might have it the other way too.
func TestLowestWordFirst(t *testing.T) {
	if got := limbs.Of[[4]uint64](9); got != [4]uint64{9, 0, 0, 0} {
		t.Error(got)
	}
	if limbs.Cmp([4]uint64{9, 0, 0, 1}, [4]uint64{0, 0, 0, 2}) != -1 || limbs.Cmp([4]uint64{0, 0, 0, 2}, [4]uint64{9, 9, 9, 1}) != 1 {
		t.Error("Cmp")
	}
	if limbs.Shl([4]uint64{5}, 130) != [4]uint64{0, 0, 20, 0} || limbs.Shr([4]uint64{0, 0, 20, 0}, 130) != [4]uint64{5} {
		t.Error("Shl, Shr")
	}
	if limbs.Len([4]uint64{0, 0, 20, 0}) != 133 || limbs.Bit([4]uint64{0, 0, 20, 0}, 132) != 1 || limbs.Bit([4]uint64{0, 0, 20, 0}, 131) != 0 {
		t.Error("Len, Bit")
	}
	if got, beyond := limbs.Mul([4]uint64{0, 0, 0, 1 << 63}, 6); got != [4]uint64{} || beyond != 3 {
		t.Error(got, beyond)
	}
	if got, rest := limbs.Div([4]uint64{5, 0, 0, 3}, 3); got != [4]uint64{1, 0, 0, 1} || rest != 2 {
		t.Error(got, rest)
	}
}
