/-
  Texts that the proof leans on.
-/
import Derived.Test.YtiojbgdfmabjdaaDoorJ22
import Derived.Test.YtiojbgdfmabjdaaDoorJ17
import Derived.Test.YtiojbgdfmabjdaaDoorJ13
import Derived.Test.YtiojbgdfmabjdaaDoorJ10
import Derived.Test.YtiojbgdfmabjdaaDoorJ23
import Derived.Test.YtiojbgdfmabjdaaDoorJ33
import Derived.Test.YtiojbgdfmabjdaaDoorJ24
import Derived.Test.YtiojbgdfmabjdaaDoorJ27
import Derived.Test.YtiojbgdfmabjdaaDoorJ26
set_option linter.unusedVariables false
set_option linter.unusedSectionVars false
set_option linter.unusedSimpArgs false
set_option maxRecDepth 20000
namespace Go.Proofs.YtiojbgdfmabjdaaDoor
open Go.RowKit
theorem NT.more {K K' V : Nat} {v : Value} {w : World} (h : NT K V v w) (hk : K ≤ K') : NT K' V v w := by
  obtain ⟨g, k, cap, z, h1, h2, h3, h4, h5⟩ := h
  exact ⟨g, k, cap, z, h1, by omega, h3, h4, h5⟩
section
def decN (n : Int) : Prop := 7 ≤ n ∧ n ≤ 12
instance (n : Int) : Decidable (decN n) := inferInstanceAs (Decidable (_ ∧ _))
/-- a decimal format's numbers -/
def fD (n : Int) : DF := if n = 7 ∨ n = 10 then ⟨20, 6, 2, -101, denseN n⟩ else if n = 8 ∨ n = 11 then ⟨50, 8, 5, -398, denseN n⟩ else ⟨110, 12, 11, -6176, denseN n⟩
/-- a pattern is a decimal format's -/
def goodD (n : Int) (B : Nat) : Prop := decN n ∧ B < 2 ^ ((fD n).t + ((fD n).w + 6))
instance (n : Int) (B : Nat) : Decidable (goodD n B) := inferInstanceAs (Decidable (_ ∧ _))
attribute [local irreducible] W4 NT NV
end
section
attribute [local irreducible] W4
instance (f : DF) (d : Dat) : Decidable (vI f d) := inferInstanceAs (Decidable (_ ∨ _))
end
end Go.Proofs.YtiojbgdfmabjdaaDoor
