/-
  Texts that the proof leans on.
-/
import Derived.Test.YtiojbgdfmabjdaaDoorJ9
import Derived.Test.YtiojbgdfmabjdaaDoorJ22
set_option linter.unusedVariables false
set_option linter.unusedSectionVars false
set_option linter.unusedSimpArgs false
set_option maxRecDepth 20000
namespace Go.Proofs.YtiojbgdfmabjdaaDoor
open Go.RowKit
/-- a decimal format: T's bits, G's bits behind the five, declets, the least exponent, dense -/
structure DF where
  t : Nat
  w : Nat
  j : Nat
  l : Int
  dn : Bool
def DF.ok (f : DF) : Prop := (f.t = 20 ∧ f.w = 6 ∧ f.j = 2 ∧ f.l = -101) ∨ (f.t = 50 ∧ f.w = 8 ∧ f.j = 5 ∧ f.l = -398) ∨ (f.t = 110 ∧ f.w = 12 ∧ f.j = 11 ∧ f.l = -6176)
/-- a datum is the format's -/
def vI (f : DF) (d : Dat) : Prop :=
  (d.c = 1 ∧ d.g = false ∧ d.k < 10 ^ (3 * f.j + 1) ∧ f.l ≤ d.x ∧ d.x ≤ f.l + 3 * 2 ^ f.w - 1) ∨ (d.c = 2 ∧ d.g = false ∧ d.k = 0 ∧ d.x = 0) ∨ (d.c = 3 ∧ d.x = 0 ∧ d.k < 10 ^ (3 * f.j))
end Go.Proofs.YtiojbgdfmabjdaaDoor
