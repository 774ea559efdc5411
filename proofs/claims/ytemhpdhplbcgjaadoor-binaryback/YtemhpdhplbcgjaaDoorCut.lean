/-
  What the statements' own cut, is and added do: contracts.
-/
import Derived.Test.YtemhpdhplbcgjaaDoorRight
set_option linter.unusedVariables false
set_option linter.unusedSimpArgs false
set_option maxRecDepth 20000
namespace Go.Proofs.YtemhpdhplbcgjaaDoor
open Go.RowKit

/-- the words below q -/
def lowW (x : Nat → Int) (q i : Nat) : Int := if i < q then x i else 0
theorem lowW_words {x : Nat → Int} (hx : Words x) (q : Nat) : Words (lowW x q) := fun i => by unfold lowW; split; exact hx i; decide
theorem cmpL_same {x y : Nat → Int} : ∀ n, (∀ i, i < n → x i = y i) → cmpL x y n = 0
  | 0, _ => rfl
  | n + 1, h => by
    have := h n (by omega)
    simp only [cmpL]
    rw [if_neg (by omega), if_neg (by omega)]
    exact cmpL_same n fun i hi => h i (by omega)

set_option maxHeartbeats 400000 in
set_option maxHeartbeats 400000 in
theorem finL_back {x : Nat → Int} (hx : Words x) (q j : Nat) : finL (shrW x q 0) q 0 j = if q ≤ j then x j else 0 := by
  unfold finL
  split
  · have e1 : lowp (shrW x q 0) q 0 j = 0 := by unfold lowp; rw [if_neg (by omega)]
    have e2 : shrW x q 0 (j - q) = x j := by unfold shrW; rw [if_pos rfl, show q + (j - q) = j by omega]
    rw [e1, e2, Int.pow_zero, Int.mul_one, wrap_id _ (hx j), zero_orW _ (hx j)]
  · rfl
theorem difZ_cut {x : Nat → Int} {n M : Nat} (hx : Words x) (zx : ∀ i, n ≤ i → x i = 0) (hM : n ≤ M) (q : Nat) : difZ x (finL (shrW x q 0) q 0) M = lowW x q := by
  have hb : ∀ i, borW x (finL (shrW x q 0) q 0) i = 0 := by
    intro i
    induction i with
    | zero => rfl
    | succ i ih =>
      have h1 := hx i
      simp only [borW, ih, bor, finL_back hx]
      rw [if_neg]; split <;> omega
  funext i
  unfold difZ lowW difW
  rw [hb i, finL_back hx]
  have h1 := hx i
  by_cases hi : i < M
  · rw [if_pos hi]
    by_cases hq : q ≤ i
    · rw [if_pos hq, if_neg (by omega)]; simp
    · rw [if_neg hq, if_pos (by omega)]; omega
  · rw [if_neg hi]
    have := zx i (by omega)
    split <;> omega

set_option maxHeartbeats 1000000 in
def oneW (c : Int) (j : Nat) : Int := if j = 0 then c else 0
theorem num_one (w : World) (c : Int) (hc : 0 ≤ c ∧ c ≤ 18446744073709551615) : Num (w.alloc (.cells #[.int .u64 c] 22)) (some ⟨w.heap.size, 0, none⟩) 1 1 (oneW c) :=
  num_of_block (by omega) (fun i => by unfold oneW; split; exact hc; decide) (fun i hi => by unfold oneW; rw [if_neg (by omega)]) rfl (fun j hj => match j, hj with | 0, _ => rfl)

end Go.Proofs.YtemhpdhplbcgjaaDoor
