/-
  Texts that the proof leans on, joined: Sq9.
-/
import Derived.Test.YtoobncgmcnmgjaaGreatDoorL37
set_option linter.unusedVariables false
set_option linter.unusedSectionVars false
set_option linter.unusedSimpArgs false
set_option maxRecDepth 20000
namespace Go.Proofs.YtoobncgmcnmgjaaGreatDoor
open Go.RowKit

theorem dec_is {V : Nat} {TT : List UInt8} {u : Value} {W : World} (hg : gdD TT) (hv : dV TT = V) (h : NV 8 V u W) : Calls Tryz.prog 17 #[u] W fun r w' => r = .returned (.string (B TT)) ∧ Below W.heap.size W w' := by
  obtain ⟨g, k, cap, z, rfl, hk, hN, hz⟩ := h
  obtain ⟨D, d1, d2, d3, d4⟩ := rdec8 (by omega) hN
  have : D = TT := gd_uniq d1 hg (by rw [hv]; omega)
  subst this
  exact d4 W (Below.refl _ _)
attribute [local irreducible] W4 Nz Nt NT NV
end Go.Proofs.YtoobncgmcnmgjaaGreatDoor
