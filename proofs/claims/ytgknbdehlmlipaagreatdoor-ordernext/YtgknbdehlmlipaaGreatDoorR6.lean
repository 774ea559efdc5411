/-
  Texts that the proof leans on.
-/
import Derived.Test.YtgknbdehlmlipaaGreatDoorProg
import Derived.Below
import Derived.WalkKit
namespace Go.Proofs.YtgknbdehlmlipaaGreatDoor
open Go.RowKit
theorem bgo {n : Nat} {a b : World} (h : Below n a b := by (repeat (first | with_reducible assumption | with_reducible exact Below.refl _ _ | with_reducible refine Below.setCell ?_ (by first | omega | (dsimp only; omega) | (simp <;> omega)) _ | with_reducible refine Below.alloc ?_ (by first | omega | (simp <;> omega)) _ | with_reducible refine Below.drew ?_))) : Below n a b := h
theorem ltg {a b : Nat} (h : a < b := by first | with_reducible assumption | (simp; done) | (simp; omega)) : a < b := h
end Go.Proofs.YtgknbdehlmlipaaGreatDoor

set_option linter.unusedVariables false
set_option maxRecDepth 20000
set_option linter.unusedSectionVars false
set_option linter.unusedSimpArgs false
namespace Go.Proofs.YtgknbdehlmlipaaGreatDoor

/-- the value of the n lowest words -/
def val (x : Nat → Int) : Nat → Int
  | 0 => 0
  | n + 1 => val x n + x n * 18446744073709551616 ^ n
theorem val_congr {x y : Nat → Int} : ∀ n, (∀ i, i < n → x i = y i) → val x n = val y n
  | 0, _ => rfl
  | n + 1, h => by simp only [val]; rw [val_congr n fun i hi => h i (by omega), h n (by omega)]
theorem pw_pos (n : Nat) : (0 : Int) < 18446744073709551616 ^ n := Int.pow_pos (by decide)
theorem val_bd {x : Nat → Int} (hx : ∀ i, 0 ≤ x i ∧ x i ≤ 18446744073709551615) : ∀ n, 0 ≤ val x n ∧ val x n < 18446744073709551616 ^ n
  | 0 => by simp [val]
  | n + 1 => by
    have ih := val_bd hx n
    have hb := hx n
    have hp := pw_pos n
    simp only [val]
    have h1 : 0 ≤ x n * 18446744073709551616 ^ n := Int.mul_nonneg hb.1 (Int.le_of_lt hp)
    have h2 : x n * 18446744073709551616 ^ n ≤ 18446744073709551615 * 18446744073709551616 ^ n := Int.mul_le_mul_of_nonneg_right hb.2 (Int.le_of_lt hp)
    rw [Int.pow_succ]
    omega
theorem val_set (x : Nat → Int) (p : Nat) (v : Int) : ∀ n, p < n → val (fun i => if i = p then v else x i) n = val x n + (v - x p) * 18446744073709551616 ^ p
  | 0, h => by omega
  | n + 1, h => by
    simp only [val]
    by_cases e : n = p
    · subst e
      rw [if_pos rfl, val_congr (y := x) n fun i hi => if_neg (by omega), Int.sub_mul]; omega
    · rw [if_neg e, val_set x p v n (by omega)]; omega
/-- words are told by the value -/
theorem val_inj {x y : Nat → Int} (hx : ∀ i, 0 ≤ x i ∧ x i ≤ 18446744073709551615) (hy : ∀ i, 0 ≤ y i ∧ y i ≤ 18446744073709551615) : ∀ n, val x n = val y n → ∀ i, i < n → x i = y i
  | 0, _, i, hi => by omega
  | n + 1, h, i, hi => by
    simp only [val] at h
    have bx := val_bd hx n
    have b_y := val_bd hy n
    have hp := pw_pos n
    have e1 : (val x n + x n * 18446744073709551616 ^ n) / 18446744073709551616 ^ n = x n := by
      rw [Int.add_mul_ediv_right _ _ (Int.ne_of_gt hp), Int.ediv_eq_zero_of_lt bx.1 bx.2]; omega
    have e2 : (val y n + y n * 18446744073709551616 ^ n) / 18446744073709551616 ^ n = y n := by
      rw [Int.add_mul_ediv_right _ _ (Int.ne_of_gt hp), Int.ediv_eq_zero_of_lt b_y.1 b_y.2]; omega
    have e3 : x n = y n := by rw [← e1, ← e2, h]
    by_cases e : i = n
    · subst e; exact e3
    · rw [e3] at h
      exact val_inj hx hy n (by omega) i (by omega)
theorem val_more {x : Nat → Int} {n : Nat} (hz : ∀ i, n ≤ i → x i = 0) : ∀ m, n ≤ m → val x m = val x n
  | 0, h => by obtain rfl : n = 0 := by omega
               rfl
  | m + 1, h => by
    by_cases e : n = m + 1
    · rw [e]
    · simp only [val]; rw [val_more hz m (by omega), hz m (by omega)]; omega

/-- one word's product, the word that lies there and the carry: what is laid and what is carried -/
theorem mul_step (a b z c : Int) (ha : 0 ≤ a ∧ a ≤ 18446744073709551615) (hb : 0 ≤ b ∧ b ≤ 18446744073709551615) (hz : 0 ≤ z ∧ z ≤ 18446744073709551615) (hc : 0 ≤ c ∧ c ≤ 18446744073709551615) :
    ((a * b % 18446744073709551616 + z) % 18446744073709551616 + c) % 18446744073709551616 + (a * b / 18446744073709551616 + (a * b % 18446744073709551616 + z) / 18446744073709551616 + ((a * b % 18446744073709551616 + z) % 18446744073709551616 + c) / 18446744073709551616) * 18446744073709551616 = a * b + z + c ∧
    0 ≤ a * b / 18446744073709551616 + (a * b % 18446744073709551616 + z) / 18446744073709551616 ∧ a * b / 18446744073709551616 + (a * b % 18446744073709551616 + z) / 18446744073709551616 ≤ 18446744073709551615 ∧
    0 ≤ a * b / 18446744073709551616 + (a * b % 18446744073709551616 + z) / 18446744073709551616 + ((a * b % 18446744073709551616 + z) % 18446744073709551616 + c) / 18446744073709551616 ∧ a * b / 18446744073709551616 + (a * b % 18446744073709551616 + z) / 18446744073709551616 + ((a * b % 18446744073709551616 + z) % 18446744073709551616 + c) / 18446744073709551616 ≤ 18446744073709551615 := by
  have h1 : 0 ≤ a * b := Int.mul_nonneg ha.1 hb.1
  have h2 : a * b ≤ 18446744073709551615 * 18446744073709551615 := Int.mul_le_mul ha.2 hb.2 hb.1 (by decide)
  generalize a * b = P at *
  omega
/-- a round of the inner loop -/
theorem mul_inner (V Vi a vb b z c s hi : Int) (i k : Nat) (h : V + c * 18446744073709551616 ^ (i + k) = Vi + a * vb * 18446744073709551616 ^ i) (hs : s + hi * 18446744073709551616 = a * b + z + c) :
    V + (s - z) * 18446744073709551616 ^ (i + k) + hi * 18446744073709551616 ^ (i + (k + 1)) = Vi + a * (vb + b * 18446744073709551616 ^ k) * 18446744073709551616 ^ i := by
  have e1 : s = a * b + z + c - hi * 18446744073709551616 := by omega
  have e2 : (18446744073709551616 : Int) ^ (i + (k + 1)) = 18446744073709551616 ^ (i + k) * 18446744073709551616 := by rw [← Int.pow_succ]; rfl
  have e3 : (18446744073709551616 : Int) ^ (i + k) = 18446744073709551616 ^ i * 18446744073709551616 ^ k := Int.pow_add ..
  rw [e1, e2]
  rw [e3] at h ⊢
  generalize (18446744073709551616 : Int) ^ i = p at *
  generalize (18446744073709551616 : Int) ^ k = q at *
  grind
end Go.Proofs.YtgknbdehlmlipaaGreatDoor
