/-
  Texts that the proof leans on.
-/
import Derived.Test.YtpemdcnneabbfaaDoorJ31
import Derived.Test.YtpemdcnneabbfaaDoorJ24
set_option linter.unusedVariables false
set_option linter.unusedSectionVars false
set_option linter.unusedSimpArgs false
set_option maxRecDepth 20000
namespace Go.Proofs.YtpemdcnneabbfaaDoor
open Go.RowKit
section
theorem nv_nt {K V : Nat} {v : Value} {w : World} (h : NV K V v w) : Nt K V v w := by
  obtain ⟨g, k, cap, z, h1, h2, h3, h4⟩ := h
  exact ⟨_, k, cap, z, h1, h2, h3, h4⟩
theorem bl_256 {B : Nat} (hB : B < 2 ^ 256) : bl B ≤ 51200 := Nat.le_trans (bl_le.2 hB) (by decide)
attribute [local irreducible] W4 Nt
end
end Go.Proofs.YtpemdcnneabbfaaDoor
