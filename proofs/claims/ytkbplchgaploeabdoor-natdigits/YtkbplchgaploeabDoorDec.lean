/-
  Decimal digits: arithmetic.
-/
import Derived.Test.YtkbplchgaploeabDoorNdb
import Derived.Laws.BytesArg
set_option linter.unusedVariables false
set_option linter.unusedSimpArgs false
namespace Go.Proofs.YtkbplchgaploeabDoor
open Go.RowKit

theorem p10_pos (n : Nat) : (0 : Int) < 10 ^ n := Int.pow_pos (by decide)
/-- the digit of place i -/
def dgt (V : Int) (i : Nat) : Int := V / 10 ^ i % 10
theorem dgt_bd (V : Int) (i : Nat) : 0 ≤ dgt V i ∧ dgt V i ≤ 9 := by
  unfold dgt
  have := Int.emod_nonneg (V / 10 ^ i) (show (10 : Int) ≠ 0 by decide)
  have := Int.emod_lt_of_pos (V / 10 ^ i) (show (0 : Int) < 10 by decide)
  omega
theorem dgt_small {V : Int} {L : Nat} (h0 : 0 ≤ V) (h : V < 10 ^ L) (i : Nat) (hi : L ≤ i) : dgt V i = 0 := by
  unfold dgt
  have : V / 10 ^ i = 0 := Int.ediv_eq_zero_of_lt h0 (Int.lt_of_lt_of_le h (by
    obtain ⟨k, rfl⟩ : ∃ k, i = L + k := ⟨i - L, by omega⟩
    rw [Int.pow_add]
    have h1 := p10_pos L
    have h2 := p10_pos k
    have : (10 : Int) ^ L * 1 ≤ 10 ^ L * 10 ^ k := Int.mul_le_mul_of_nonneg_left (by omega) (by omega)
    omega))
  rw [this]; rfl
theorem div_div10 (V : Int) (a b : Nat) : V / 10 ^ a / 10 ^ b = V / 10 ^ (a + b) := by
  rw [Int.pow_add, Int.ediv_ediv_of_nonneg (Int.le_of_lt (p10_pos a))]
theorem emod_mul_ediv' {W a b : Int} (ha : 0 < a) : W % (a * b) / a = W / a % b := by
  rw [Int.emod_def, Int.emod_def, ← Int.ediv_ediv_of_nonneg (Int.le_of_lt ha)]
  have : W - a * b * (W / a / b) = W + (-(b * (W / a / b))) * a := by grind
  rw [this, Int.add_mul_ediv_right _ _ (by omega)]; omega
theorem dgt_step {V r : Int} {L j : Nat} (hr : V / 10 ^ L % 10 ^ 19 = r) (hj : j < 19) : r / 10 ^ j % 10 = dgt V (L + j) := by
  unfold dgt
  rw [← div_div10]
  generalize V / 10 ^ L = W at *
  subst hr
  have h1 : (10 : Int) ^ 19 = 10 ^ j * (10 * 10 ^ (18 - j)) := by
    rw [← Int.mul_assoc, ← Int.pow_succ, ← Int.pow_add]; congr 1; omega
  have hp := p10_pos j
  have hp2 := p10_pos (18 - j)
  rw [h1, emod_mul_ediv' hp]
  exact Int.emod_emod_of_dvd _ ⟨10 ^ (18 - j), rfl⟩
theorem sizeL_more {x : Nat → Int} {n : Nat} (hz : ∀ i, n ≤ i → x i = 0) : ∀ m, n ≤ m → sizeL x m = sizeL x n
  | 0, h => by have : n = 0 := by omega
               subst this; rfl
  | m + 1, h => by
    by_cases e : n = m + 1
    · subst e; rfl
    · rw [show sizeL x (m + 1) = sizeL x m by simp [sizeL, hz m (by omega)]]
      exact sizeL_more hz m (by omega)
/-- the digits, the highest first: those of the lowest L places -/
def decL (V : Int) (L : Nat) : List Int := if sizeL (dgt V) L = 0 then [48] else (List.range (sizeL (dgt V) L)).map fun i => 48 + dgt V (sizeL (dgt V) L - 1 - i)
theorem decL_more {V : Int} {L L' : Nat} (h0 : 0 ≤ V) (h : V < 10 ^ L) (h' : V < 10 ^ L') : decL V L = decL V L' := by
  have key : ∀ a b, a ≤ b → V < 10 ^ a → decL V b = decL V a := fun a b hab ha => by
    unfold decL
    rw [sizeL_more (fun i hi => dgt_small h0 ha i hi) b hab]
  rcases Nat.le_total L L' with e | e
  · exact (key L L' e h).symm
  · exact key L' L e h'

theorem quo_val {x : Nat → Int} {d : Int} (hx : Words x) (hd : 0 < d) (m : Nat) : val (quoW x d m) m = val x m / d ∧ remJ x d m m = val x m % d := by
  have h := div_val x d m m (Nat.le_refl _)
  simp only [Nat.sub_self, val, Int.pow_zero, Int.mul_one, Int.zero_add, Int.sub_zero] at h
  have hb := remJ_bd x d m m hd
  have e := (Int.ediv_emod_unique hd (a := val x m) (r := remJ x d m m) (q := val (quoW x d m) m)).2 ⟨h, hb.1, hb.2⟩
  exact ⟨e.1.symm, e.2.symm⟩
end Go.Proofs.YtkbplchgaploeabDoor
