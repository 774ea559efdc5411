package nat_test

import (
	"slices"
	"testing"

	"caliper/api"
	"caliper/nat"
)

// The chapter's examples, in plain words of the answers.
func TestExamples(t *testing.T) {
	if got, e := nat.Sub([]uint64{5}, []uint64{7}); len(got) != 0 || e != api.ErrRange {
		t.Error(got, e)
	}
	if got, gone := nat.Shr([]uint64{5}, 1); !slices.Equal(got, []uint64{2}) || !gone {
		t.Error(got, gone)
	}
	if got, e := nat.Power(10, 2); !slices.Equal(got, []uint64{100}) || e != api.OK {
		t.Error(got, e)
	}
	if got, e := nat.Read("007"); !slices.Equal(got, []uint64{7}) || e != api.OK {
		t.Error(got, e)
	}
}

// The lowest word stands first: said without the oracle, which might have it the other way too.
func TestLowestWordFirst(t *testing.T) {
	if got := nat.Add([]uint64{most}, []uint64{1}); !slices.Equal(got, []uint64{0, 1}) {
		t.Error(got)
	}
	if nat.Cmp([]uint64{9, 1}, []uint64{0, 2}) != -1 || nat.Len([]uint64{0, 0, 20}) != 133 {
		t.Error("Cmp, Len")
	}
	if got, e := nat.Shl([]uint64{5}, 130); !slices.Equal(got, []uint64{0, 0, 20}) || e != api.OK {
		t.Error(got, e)
	}
	if got, rest, e := nat.Div([]uint64{5, 0, 3}, []uint64{0, 2}); !slices.Equal(got, []uint64{1 << 63, 1}) || !slices.Equal(rest, []uint64{5}) || e != api.OK {
		t.Error(got, rest, e)
	}
	if got, e := nat.Digits([]uint64{0, 1}); got != "18446744073709551616" || e != api.OK {
		t.Error(got, e)
	}
}

// lists are all answers of one pair of arguments that are lists.
func lists(a, b []uint64, n int) [][]uint64 {
	difference, _ := nat.Sub(a, b)
	product, _ := nat.Mul(a, b)
	up, _ := nat.Shl(a, n)
	down, _ := nat.Shr(a, n)
	quotient, rest, _ := nat.Div(a, b)
	nat.Digits(a)
	nat.Cmp(a, b)
	nat.Len(a)
	return [][]uint64{nat.Trim(a), nat.Add(a, b), difference, product, up, down, quotient, rest}
}

// roomy is a in the beginning of a list with spare room, that whole list, and a copy of it.
func roomy(a []uint64) (part, whole, before []uint64) {
	whole = append(slices.Clone(a), 0, 0, 3, 4)
	return whole[:len(a)], whole, slices.Clone(whole)
}

// R3: arguments stay as they are, their spare room too, and answers share nothing with them nor with one another.
func TestMemory(t *testing.T) {
	shifts := []int{-1, 0, 1, 63, 64, 65, 128, 1000}
	for i, x := range samples() {
		for k, y := range samples() {
			a, wholeA, beforeA := roomy(x)
			b, wholeB, beforeB := roomy(y)
			answers := lists(a, b, shifts[(i+k)%len(shifts)])
			var kept [][]uint64
			for _, answer := range answers {
				kept = append(kept, slices.Clone(answer))
			}
			for m, answer := range answers {
				if !slices.Equal(answer, kept[m]) {
					t.Fatalf("answer %d of %x, %x shares memory with another one", m, x, y)
				}
				room := answer[:cap(answer)]
				for w := range room {
					room[w] = ^room[w]
				}
			}
			if !slices.Equal(wholeA, beforeA) || !slices.Equal(wholeB, beforeB) {
				t.Fatalf("%x, %x: an argument was changed, or an answer is its memory", x, y)
			}
		}
	}
}

// R3: one list may be both arguments.
func TestOneListTwice(t *testing.T) {
	for _, a := range samples() {
		before := slices.Clone(a)
		for m, answer := range lists(a, a, 64) {
			other := lists(slices.Clone(a), slices.Clone(a), 64)[m]
			if !slices.Equal(answer, other) {
				t.Errorf("answer %d of %x twice: %x, not %x", m, a, answer, other)
			}
		}
		if !slices.Equal(a, before) {
			t.Errorf("%x was changed to %x", before, a)
		}
	}
}

// R2: what was done to an earlier answer doesn't show in a later one.
func TestAnswersAreNew(t *testing.T) {
	for range 2 {
		power, _ := nat.Power(10, 40)
		read, _ := nat.Read("10000000000000000000000000000000000000000")
		if !slices.Equal(power, read) || len(power) != 3 {
			t.Errorf("%x, %x", power, read)
		}
		clear(power[:cap(power)])
		clear(read[:cap(read)])
	}
}
