/-
  Texts that the proof leans on.
-/
import Derived.Test.YtgknbdehlmlipaaGreatDoorR20
import Derived.Test.YtgknbdehlmlipaaGreatDoorR22
import Derived.Test.YtgknbdehlmlipaaGreatDoorR26
import Derived.Test.YtgknbdehlmlipaaGreatDoorR28
import Derived.Deep.Cut
import Derived.Deep.CutRange
set_option linter.unusedVariables false
set_option linter.unusedSectionVars false
set_option linter.unusedSimpArgs false
set_option maxRecDepth 20000
namespace Go.Proofs.YtgknbdehlmlipaaGreatDoor
open Go.RowKit
section
def decN (n : Int) : Prop := 7 ≤ n ∧ n ≤ 12
instance (n : Int) : Decidable (decN n) := inferInstanceAs (Decidable (_ ∧ _))
/-- a decimal format's numbers -/
def fD (n : Int) : DF := if n = 7 ∨ n = 10 then ⟨20, 6, 2, -101, denseN n⟩ else if n = 8 ∨ n = 11 then ⟨50, 8, 5, -398, denseN n⟩ else ⟨110, 12, 11, -6176, denseN n⟩
theorem dec_cases {n : Int} (h : decN n) : n = 7 ∨ n = 8 ∨ n = 9 ∨ n = 10 ∨ n = 11 ∨ n = 12 := by unfold decN at h; omega
theorem fD_ok (n : Int) : (fD n).ok := by
  unfold fD
  split
  · exact Or.inl ⟨rfl, rfl, rfl, rfl⟩
  · split
    · exact Or.inr (Or.inl ⟨rfl, rfl, rfl, rfl⟩)
    · exact Or.inr (Or.inr ⟨rfl, rfl, rfl, rfl⟩)
theorem dec_fields {n : Int} (h : decN n) : okN n ∧ numN n = n ∧ baseN n = 10 ∧ widthN n = (((fD n).t + ((fD n).w + 6) : Nat) : Int) ∧ precN n = 3 * ((fD n).j : Int) + 1 ∧ leastN n = (fD n).l ∧ mostN n = (fD n).l + 3 * 2 ^ (fD n).w - 1 ∧ payN n = 3 * ((fD n).j : Int) ∧ denseN n = (fD n).dn := by
  rcases dec_cases h with rfl | rfl | rfl | rfl | rfl | rfl <;> decide
/-- a pattern is a decimal format's -/
def goodD (n : Int) (B : Nat) : Prop := decN n ∧ B < 2 ^ ((fD n).t + ((fD n).w + 6))
instance (n : Int) (B : Nat) : Decidable (goodD n B) := inferInstanceAs (Decidable (_ ∧ _))
attribute [local irreducible] W4 NT NV
/-- what Of tells of a decimal format -/
abbrev IDec (n : Int) (nm : ByteArray) (wd pr ex le mo pa : Int) (dn : Bool) : Value := .agg #[.int .i64 n, .string nm, .int .i64 10, .int .i64 wd, .int .i64 pr, .int .i64 ex, .int .i64 le, .int .i64 mo, .int .i64 pa, .bool dn]
end
section
attribute [local irreducible] W4
section
variable (n : Int) (nm : ByteArray) (wd pr ex le mo pa : Int) (dn : Bool) (c x : Int) (s g : Bool) (k : Nat) (w : World)
end
instance (f : DF) (d : Dat) : Decidable (vI f d) := inferInstanceAs (Decidable (_ ∨ _))
end
section
theorem or_lay (y b r : Nat) (hb : b < 2 ^ r) (h : y * 2 ^ r + b < 18446744073709551616) : bits .or .u64 ((y * 2 ^ r : Nat) : Int) (b : Int) = ((y * 2 ^ r + b : Nat) : Int) := by
  have e := orW_eq ((y * 2 ^ r : Nat) : Int) (b : Int) (by omega) (by omega)
  unfold orW at e
  rw [e, Int.toNat_natCast, Int.toNat_natCast, Nat.mul_comm y, ← Nat.two_pow_add_eq_or_of_lt hb]
theorem and_lay (y r : Nat) (hr : r < 64) (hy : y < 18446744073709551616) : bits .and .u64 (y : Int) ((2 ^ r : Nat) - 1 : Int) = ((y % 2 ^ r : Nat) : Int) := by
  have e := and_mask (y := (y : Int)) (r := r) (by omega) hr
  rw [← powCast] at e
  rw [e, Int.natCast_emod]
section
variable (n : Int) (C : Int) (s g : Bool) (x : Int) (k : Nat) (w : World)
end
end
end Go.Proofs.YtgknbdehlmlipaaGreatDoor
