/-
  Texts that the proof leans on.
-/
import Derived.Test.YtpemdcnneabbfaaGreatDoorProg
import Derived.Below
import Derived.WalkKit
namespace Go.Proofs.YtpemdcnneabbfaaGreatDoor
open Go.RowKit
theorem bgo {n : Nat} {a b : World} (h : Below n a b := by (repeat (first | with_reducible assumption | with_reducible exact Below.refl _ _ | with_reducible refine Below.setCell ?_ (by first | omega | (dsimp only; omega) | (simp <;> omega)) _ | with_reducible refine Below.alloc ?_ (by first | omega | (simp <;> omega)) _ | with_reducible refine Below.drew ?_))) : Below n a b := h
theorem ltg {a b : Nat} (h : a < b := by first | with_reducible assumption | (simp; done) | (simp; omega)) : a < b := h
end Go.Proofs.YtpemdcnneabbfaaGreatDoor

set_option linter.unusedVariables false
set_option maxRecDepth 20000
set_option linter.unusedSectionVars false
set_option linter.unusedSimpArgs false
namespace Go.Proofs.YtpemdcnneabbfaaGreatDoor

/-- what a step is about: u below Y = d1 * 2^32 + d0, one digit e more -/
structure Dg (u d1 d0 e : Int) : Prop where
  a1 : 2147483648 ≤ d1
  a2 : d1 < 4294967296
  b1 : 0 ≤ d0
  b2 : d0 < 4294967296
  e1 : 0 ≤ e
  e2 : e < 4294967296
  u1 : 0 ≤ u
  u2 : u < d1 * 4294967296 + d0

theorem Dg.pos {u d1 d0 e : Int} (h : Dg u d1 d0 e) : 0 < d1 * 4294967296 + d0 := by have := h.a1; have := h.b1; omega
theorem mulY (q d1 d0 : Int) : q * (d1 * 4294967296 + d0) = (q * d1) * 4294967296 + q * d0 := by rw [Int.mul_add, Int.mul_assoc]
/-- the digit is below 2^32 -/
theorem Dg.lt {u d1 d0 e : Int} (h : Dg u d1 d0 e) : (u * 4294967296 + e) / (d1 * 4294967296 + d0) < 4294967296 := by
  apply Int.ediv_lt_of_lt_mul h.pos
  have := h.u2; have := h.e2; omega
theorem Dg.nonneg {u d1 d0 e : Int} (h : Dg u d1 d0 e) : 0 ≤ (u * 4294967296 + e) / (d1 * 4294967296 + d0) := Int.ediv_nonneg (by have := h.u1; have := h.e1; omega) (by have := h.pos; omega)
/-- the guess is too great -/
theorem Dg.big {u d1 d0 e q r : Int} (h : Dg u d1 d0 e) (hq : q * d1 + r = u) (ht : 4294967296 * r + e < q * d0) : (u * 4294967296 + e) / (d1 * 4294967296 + d0) ≤ q - 1 := by
  have : (u * 4294967296 + e) / (d1 * 4294967296 + d0) < q := by
    apply Int.ediv_lt_of_lt_mul h.pos
    rw [mulY]; omega
  omega
theorem Dg.big' {u d1 d0 e q : Int} (h : Dg u d1 d0 e) (ht : 4294967296 ≤ q) : (u * 4294967296 + e) / (d1 * 4294967296 + d0) ≤ q - 1 := by
  have := h.lt; omega
/-- the guess is right -/
theorem Dg.right {u d1 d0 e q r : Int} (h : Dg u d1 d0 e) (hq : q * d1 + r = u) (hge : (u * 4294967296 + e) / (d1 * 4294967296 + d0) ≤ q) (ht : q * d0 ≤ 4294967296 * r + e) : (u * 4294967296 + e) / (d1 * 4294967296 + d0) = q := by
  have : q ≤ (u * 4294967296 + e) / (d1 * 4294967296 + d0) := by
    apply Int.le_ediv_of_mul_le h.pos
    rw [mulY]; omega
  omega
theorem Dg.right' {u d1 d0 e q r : Int} (h : Dg u d1 d0 e) (hq : q * d1 + r = u) (hge : (u * 4294967296 + e) / (d1 * 4294967296 + d0) ≤ q) (hq2 : q ≤ 4294967296) (hr : 4294967296 ≤ r) : (u * 4294967296 + e) / (d1 * 4294967296 + d0) = q := by
  refine h.right hq hge ?_
  have h0 : 0 ≤ q := Int.le_trans h.nonneg hge
  have h1 : q * d0 ≤ 4294967296 * d0 := Int.mul_le_mul_of_nonneg_right hq2 h.b1
  have := h.b2; have := h.e1
  omega
/-- the first guess -/
theorem Dg.first {u d1 d0 e : Int} (h : Dg u d1 d0 e) : (u / d1) * d1 + u % d1 = u ∧ (u * 4294967296 + e) / (d1 * 4294967296 + d0) ≤ u / d1 ∧ u / d1 ≤ 4294967297 ∧ 0 ≤ u % d1 ∧ u % d1 < 4294967296 := by
  have a1 := h.a1; have a2 := h.a2
  have hd : 0 < d1 := by omega
  have e0 : (u / d1) * d1 + u % d1 = u := Int.mul_comm d1 _ ▸ Int.mul_ediv_add_emod u d1
  have m0 := Int.emod_nonneg u (show d1 ≠ 0 by omega)
  have m1 := Int.emod_lt_of_pos u hd
  refine ⟨e0, ?_, ?_, m0, by omega⟩
  · have : (u * 4294967296 + e) / (d1 * 4294967296 + d0) < u / d1 + 1 := by
      apply Int.ediv_lt_of_lt_mul h.pos
      rw [mulY, Int.add_mul]
      have p0 : 0 ≤ (u / d1 + 1) * d0 := Int.mul_nonneg (by have := Int.ediv_nonneg h.u1 (Int.le_of_lt hd); omega) h.b1
      have := h.e2
      omega
    omega
  · have : u / d1 < 4294967298 := by
      apply Int.ediv_lt_of_lt_mul hd
      have := h.u2; have := h.b2
      omega
    omega
end Go.Proofs.YtpemdcnneabbfaaGreatDoor
