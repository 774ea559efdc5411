/-
  What nat's addInto, carryInto and Add do: contracts.
-/
import Derived.Test.YtemhpdhplbcgjaaDoorCmp
set_option linter.unusedVariables false
set_option linter.unusedSimpArgs false
set_option maxRecDepth 20000
set_option maxRecDepth 20000
namespace Go.Proofs.YtemhpdhplbcgjaaDoor
open Go.RowKit

theorem sum_val {x y : Nat → Int} : ∀ n, val (sumW x y) n + carryW x y n * 18446744073709551616 ^ n = val x n + val y n
  | 0 => by simp [val, carryW]
  | n + 1 => by
    have ih := sum_val (x := x) (y := y) n
    have e1 : sumW x y n + carryW x y (n + 1) * 18446744073709551616 = x n + y n + carryW x y n := by simp only [sumW, carryW]; omega
    simp only [val]
    rw [Int.pow_succ]
    generalize (18446744073709551616 : Int) ^ n = p at *
    generalize carryW x y (n + 1) = c' at *
    have e2 : sumW x y n = x n + y n + carryW x y n - c' * 18446744073709551616 := by omega
    rw [e2]
    grind

/-- the words of x, to those from off on y's lowest k added -/
def addZ (x y : Nat → Int) (off k j : Nat) : Int := if off ≤ j ∧ j < off + k then sumW (fun i => x (off + i)) y (j - off) else x j
theorem addZ_next (x y : Nat → Int) (off k j : Nat) : (if j = off + k then sumW (fun i => x (off + i)) y k else addZ x y off k j) = addZ x y off (k + 1) j := by
  unfold addZ
  by_cases e : j = off + k
  · subst e
    rw [if_pos rfl, if_pos (by omega)]; congr 1; omega
  · rw [if_neg e]
    by_cases e2 : off ≤ j ∧ j < off + k
    · rw [if_pos e2, if_pos (by omega)]
    · rw [if_neg e2, if_neg (by omega)]
theorem addZ_at (x y : Nat → Int) (off k : Nat) : addZ x y off k (off + k) = x (off + k) := by unfold addZ; rw [if_neg (by omega)]

theorem Num.cells {w : World} {a : Option Addr} {n c : Nat} {x : Nat → Int} (h : Num w a n c x) (hn : 0 < n) : ∃ b off, a = some ⟨b, off, none⟩ ∧ b < w.heap.size ∧ ∀ i, i < n → w.cell? ⟨b, off + i, none⟩ = some (.int .u64 (x i)) := by
  rcases h.2.2.2.2 with ⟨_, h'⟩ | ⟨b, off, h', hb, hc⟩
  · have := h.1; omega
  · exact ⟨b, off, h', hb, hc⟩

set_option maxHeartbeats 1000000 in
theorem carryW_stop {x y : Nat → Int} (hx : Words x) {k : Nat} (zy : ∀ i, k ≤ i → y i = 0) {i : Nat} (hi : k ≤ i) (h0 : carryW x y i = 0) : ∀ j, i ≤ j → carryW x y j = 0 ∧ sumW x y j = x j := by
  have h1 : ∀ j, i ≤ j → carryW x y j = 0 := by
    intro j hj
    induction j with
    | zero => obtain rfl : i = 0 := by omega
              exact h0
    | succ j ih =>
      by_cases e : i = j + 1
      · rw [← e]; exact h0
      · have hb := hx j
        simp only [carryW]; rw [ih (by omega), zy j (by omega)]; omega
  intro j hj
  refine ⟨h1 j hj, ?_⟩
  have hb := hx j
  unfold sumW
  rw [h1 j hj, zy j (by omega)]; omega

set_option maxHeartbeats 1000000 in
theorem sum_end {x y : Nat → Int} {s s' N : Nat} (hx : Words x) (hy : Words y) (zx : ∀ i, s ≤ i → x i = 0) (zy : ∀ i, s' ≤ i → y i = 0) (h : s < N) (h' : s' < N) : carryW x y N = 0 := by
  obtain ⟨q, rfl⟩ : ∃ q, N = q + 1 := ⟨N - 1, by omega⟩
  have := carryW_01 hx hy q
  simp only [carryW]; rw [zx q (by omega), zy q (by omega)]; omega
/-- what is left behind the work: the sum, trimmed -/
theorem sum_num {x y : Nat → Int} {g N s s' : Nat} {w : World} (hx : Words x) (hy : Words y) (zx : ∀ i, s ≤ i → x i = 0) (zy : ∀ i, s' ≤ i → y i = 0) (h : s < N) (h' : s' < N) (hN : N < 4294967296) (hO : Own g N (sumW x y) w) :
    Num w (some ⟨g, 0, none⟩) N N (segW (sumW x y) 0 N) ∧ val (segW (sumW x y) 0 N) N = val x s + val y s' := by
  refine ⟨hO.num (sumW_words x y) 0 N N (by omega) (Nat.le_refl _) (by unfold maxLen; omega), ?_⟩
  rw [val_congr (x := segW (sumW x y) 0 N) (y := sumW x y) N fun i hi => by rw [segW_lt _ 0 N i hi, Nat.zero_add]]
  have e := sum_val (x := x) (y := y) N
  rw [sum_end hx hy zx zy h h', val_more zx N (by omega), val_more zy N (by omega)] at e
  omega

end Go.Proofs.YtemhpdhplbcgjaaDoor
