/-
  Division word by word: arithmetic.
-/
import Derived.Test.YtkbplchgaploeaaDoorNsr
set_option linter.unusedVariables false
set_option linter.unusedSimpArgs false
namespace Go.Proofs.YtkbplchgaploeaaDoor
open Go.RowKit

/-- what is left, and the divisor, by their two highest words and what is below -/
structure Gs (R D u1 u0 v1 v0 P a b : Int) : Prop where
  hR : R = a + (u1 * 18446744073709551616 + u0) * (P * 18446744073709551616)
  hD : D = b + (v1 * 18446744073709551616 + v0) * P
  p : 0 < P
  a0 : 0 ≤ a
  a1 : a < P * 18446744073709551616
  b0 : 0 ≤ b
  b1 : b < P
  u1w : 0 ≤ u1 ∧ u1 ≤ 18446744073709551615
  u0w : 0 ≤ u0 ∧ u0 ≤ 18446744073709551615
  v1w : 9223372036854775808 ≤ v1 ∧ v1 ≤ 18446744073709551615
  v0w : 0 ≤ v0 ∧ v0 ≤ 18446744073709551615
  lt : R < D * 18446744073709551616

section
variable {R D u1 u0 v1 v0 P a b : Int}
theorem Gs.lowR (h : Gs R D u1 u0 v1 v0 P a b) : (u1 * 18446744073709551616 + u0) * 18446744073709551616 * P ≤ R := by
  have := h.hR; have := h.a0
  have e : (u1 * 18446744073709551616 + u0) * 18446744073709551616 * P = (u1 * 18446744073709551616 + u0) * (P * 18446744073709551616) := by grind
  omega
theorem Gs.highR (h : Gs R D u1 u0 v1 v0 P a b) : R < ((u1 * 18446744073709551616 + u0) + 1) * 18446744073709551616 * P := by
  have := h.hR; have := h.a1
  have e : ((u1 * 18446744073709551616 + u0) + 1) * 18446744073709551616 * P = (u1 * 18446744073709551616 + u0) * (P * 18446744073709551616) + P * 18446744073709551616 := by grind
  omega
theorem Gs.lowD (h : Gs R D u1 u0 v1 v0 P a b) : (v1 * 18446744073709551616 + v0) * P ≤ D := by have := h.hD; have := h.b0; omega
theorem Gs.highD (h : Gs R D u1 u0 v1 v0 P a b) : D ≤ (v1 * 18446744073709551616 + v0 + 1) * P := by
  have := h.hD; have := h.b1
  have e : (v1 * 18446744073709551616 + v0 + 1) * P = (v1 * 18446744073709551616 + v0) * P + P := by grind
  omega
theorem Gs.posD (h : Gs R D u1 u0 v1 v0 P a b) : 0 < D := by
  have h1 := h.lowD
  have : 0 < (v1 * 18446744073709551616 + v0) * P := Int.mul_pos (by have := h.v1w; have := h.v0w; omega) h.p
  omega
/-- products of a digit with the divisor, from both sides -/
theorem Gs.times_ge (h : Gs R D u1 u0 v1 v0 P a b) {k N : Int} (hk : 0 ≤ k) (hN : N ≤ k * (v1 * 18446744073709551616 + v0)) : N * P ≤ k * D := by
  have h1 : k * ((v1 * 18446744073709551616 + v0) * P) ≤ k * D := Int.mul_le_mul_of_nonneg_left h.lowD hk
  have h2 : N * P ≤ k * (v1 * 18446744073709551616 + v0) * P := Int.mul_le_mul_of_nonneg_right hN (Int.le_of_lt h.p)
  rw [Int.mul_assoc] at h2
  omega
theorem Gs.times_le (h : Gs R D u1 u0 v1 v0 P a b) {k N : Int} (hk : 0 ≤ k) (hN : k * (v1 * 18446744073709551616 + v0 + 1) ≤ N) : k * D ≤ N * P := by
  have h1 : k * D ≤ k * ((v1 * 18446744073709551616 + v0 + 1) * P) := Int.mul_le_mul_of_nonneg_left h.highD hk
  have h2 : k * (v1 * 18446744073709551616 + v0 + 1) * P ≤ N * P := Int.mul_le_mul_of_nonneg_right hN (Int.le_of_lt h.p)
  rw [Int.mul_assoc] at h2
  omega
/-- the first guess is not too small -/
theorem Gs.first (h : Gs R D u1 u0 v1 v0 P a b) : R < ((u1 * 18446744073709551616 + u0) / v1 + 1) * D := by
  have hv : 0 < v1 := by have := h.v1w; omega
  have h1 := h.highR
  have hq := Int.lt_mul_ediv_self_add (x := u1 * 18446744073709551616 + u0) hv
  have hq0 : 0 ≤ (u1 * 18446744073709551616 + u0) / v1 := Int.ediv_nonneg (by have := h.u1w; have := h.u0w; omega) (Int.le_of_lt hv)
  have := h.v0w
  generalize (u1 * 18446744073709551616 + u0) / v1 = k at *
  have h2 : (u1 * 18446744073709551616 + u0 + 1) * 18446744073709551616 ≤ (k + 1) * (v1 * 18446744073709551616 + v0) := by
    have e : (k + 1) * (v1 * 18446744073709551616 + v0) = (v1 * k + v1) * 18446744073709551616 + (k + 1) * v0 := by grind
    have : 0 ≤ (k + 1) * v0 := Int.mul_nonneg (by omega) (by omega)
    omega
  have h3 := h.times_ge (by omega) h2
  omega
/-- a guess whose product with the second word is too great is too great itself -/
theorem Gs.great (h : Gs R D u1 u0 v1 v0 P a b) {k r : Int} (hk : 0 ≤ k) (he : k * v1 + r = u1 * 18446744073709551616 + u0) (ht : (r + 1) * 18446744073709551616 ≤ k * v0) : R < k * D := by
  have h1 := h.highR
  have h2 : (u1 * 18446744073709551616 + u0 + 1) * 18446744073709551616 ≤ k * (v1 * 18446744073709551616 + v0) := by
    have e : k * (v1 * 18446744073709551616 + v0) = (k * v1) * 18446744073709551616 + k * v0 := by grind
    omega
  have h3 := h.times_ge hk h2
  omega
/-- a guess that stands is at most one too great -/
theorem Gs.stands (h : Gs R D u1 u0 v1 v0 P a b) {k r : Int} (hk : 0 ≤ k) (hk2 : k ≤ 18446744073709551615) (he : k * v1 + r = u1 * 18446744073709551616 + u0) (ht : k * v0 < (r + 1) * 18446744073709551616) : (k - 1) * D ≤ R := by
  have h1 := h.lowR
  by_cases h0 : k = 0
  · subst h0
    have := h.posD
    have : 0 ≤ (u1 * 18446744073709551616 + u0) * 18446744073709551616 * P := Int.mul_nonneg (Int.mul_nonneg (by have := h.u1w; have := h.u0w; omega) (by decide)) (Int.le_of_lt h.p)
    omega
  · have hv := h.v1w
    have hv0 := h.v0w
    have h2 : (k - 1) * (v1 * 18446744073709551616 + v0 + 1) ≤ (u1 * 18446744073709551616 + u0) * 18446744073709551616 := by
      have e : (k - 1) * (v1 * 18446744073709551616 + v0 + 1) = (k * v1) * 18446744073709551616 + k * v0 + k - v1 * 18446744073709551616 - v0 - 1 := by grind
      omega
    have h3 := h.times_le (by omega) h2
    omega
/-- where the highest words are the same the greatest word is at most one too great -/
theorem Gs.full (h : Gs R D u1 u0 v1 v0 P a b) (he : v1 ≤ u1) : (18446744073709551615 - 1) * D ≤ R := by
  have h1 := h.lowR
  have hv := h.v1w
  have hv0 := h.v0w
  have hu0 := h.u0w
  have h2 : (18446744073709551615 - 1) * (v1 * 18446744073709551616 + v0 + 1) ≤ (u1 * 18446744073709551616 + u0) * 18446744073709551616 := by omega
  have h3 := h.times_le (by decide) h2
  omega
end

/-- words shifted down: their value -/
theorem dn_val {y : Nat → Int} (hy : Words y) {r : Nat} (hr : r < 64) : ∀ m, val (shrW y 0 r) m * 2 ^ r + y 0 % 2 ^ r = val y m + y m % 2 ^ r * 18446744073709551616 ^ m
  | 0 => by simp [val]
  | m + 1 => by
    have ih := dn_val hy hr m
    have hp := p2_pos r
    have e1 : shrW y 0 r m = y m / 2 ^ r + y (m + 1) % 2 ^ r * 2 ^ (64 - r) := by
      have h1 := shr_or hy hr 0 m
      rw [Nat.zero_add] at h1
      rw [← h1]
      unfold dnW
      have hme : y (m + 1) * 2 ^ (64 - r) % 18446744073709551616 = y (m + 1) % 2 ^ r * 2 ^ (64 - r) := by
        have h3 := Int.mul_emod_mul_of_pos (y (m + 1)) (2 ^ r) (p2_pos (64 - r))
        rw [← p2_split (show r ≤ 64 by omega), Int.mul_comm (y (m + 1)), h3, Int.mul_comm]
      have hlt : y m / 2 ^ r < 2 ^ (64 - r) := by
        refine Int.ediv_lt_of_lt_mul hp ?_
        rw [p2_split (show r ≤ 64 by omega)]
        have := hy m; omega
      by_cases h0 : r = 0
      · subst h0
        have : y (m + 1) * 2 ^ (64 - 0) % 18446744073709551616 = 0 := Int.mul_emod_left _ _
        rw [wrap_mod, this, orW_zero _ (div_word _ _ (hy m))]
        simp [Int.emod_one]
      · have h64 : 64 - (64 - r) = r := by omega
        have ho := or_shl (y := y (m + 1)) (b := y m / 2 ^ r) (r := 64 - r) (by omega) (hy (m + 1)).1 ⟨(div_word _ _ (hy m)).1, hlt⟩
        rw [ho, hme]; omega
    show (val (shrW y 0 r) m + shrW y 0 r m * 18446744073709551616 ^ m) * 2 ^ r + y 0 % 2 ^ r = val y m + y m * 18446744073709551616 ^ m + y (m + 1) % 2 ^ r * 18446744073709551616 ^ (m + 1)
    have e2 := Int.emod_add_mul_ediv (y m) (2 ^ r)
    have e3 := p2_split (show r ≤ 64 by omega)
    rw [e1, Int.pow_succ]
    generalize (18446744073709551616 : Int) ^ m = Q at *
    generalize y m / 2 ^ r = A at *
    generalize y m % 2 ^ r = A' at *
    generalize y (m + 1) % 2 ^ r = C at *
    generalize y 0 % 2 ^ r = Z at *
    generalize (2 : Int) ^ (64 - r) = T at *
    generalize (2 : Int) ^ r = S at *
    grind
end Go.Proofs.YtkbplchgaploeaaDoor
