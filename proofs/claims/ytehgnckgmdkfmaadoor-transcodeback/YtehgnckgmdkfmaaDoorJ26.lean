/-
  Texts that the proof leans on.
-/
import Derived.Test.YtehgnckgmdkfmaaDoorJ23
import Derived.Test.YtehgnckgmdkfmaaDoorJ17
import Derived.Test.YtehgnckgmdkfmaaDoorJ15
import Derived.Deep.Cut
import Derived.Deep.CutRange
import Derived.Test.YtehgnckgmdkfmaaDoorJ11
set_option linter.unusedVariables false
set_option linter.unusedSectionVars false
set_option linter.unusedSimpArgs false
set_option maxRecDepth 20000
namespace Go.Proofs.YtehgnckgmdkfmaaDoor
open Go.RowKit
/-- the exponent of a fraction's first digit -/
noncomputable def tnX (N D : Nat) : Int := open Classical in if h : ∃ E, TnE N D E then Classical.choose h else 0
theorem tnX_is {N D : Nat} (hN : 0 < N) (hD : 0 < D) : TnE N D (tnX N D) := by
  have h := tnE_ex hN hD
  unfold tnX
  rw [dif_pos h]
  exact Classical.choose_spec h
/-- what decround answers -/
def rqE (n d : Int) (N D : Nat) : Int := if decN n ∧ knB d ∧ D ≠ 0 then (if 25600 < bl N ∨ 25600 < bl D then 4 else 0) else 1
noncomputable def rqD (n d : Int) (s : Bool) (N D : Nat) (x y : Int) : Dat :=
  if rqE n d N D = 0 then (if N = 0 then ⟨1, s, false, min (max y (fD n).l) (fD n).m, 0⟩ else dkD (fD n) d s (N * 10 ^ (clT x).toNat) (D * 10 ^ (-(clT x)).toNat) (tnX (N * 10 ^ (clT x).toNat) (D * 10 ^ (-(clT x)).toNat)) y) else ⟨0, false, false, 0, 0⟩
noncomputable def rqF (n d : Int) (s : Bool) (N D : Nat) (x : Int) : Int :=
  if rqE n d N D = 0 then (if N = 0 then 0 else dkF (fD n) d s (N * 10 ^ (clT x).toNat) (D * 10 ^ (-(clT x)).toNat) (tnX (N * 10 ^ (clT x).toNat) (D * 10 ^ (-(clT x)).toNat))) else 0
end Go.Proofs.YtehgnckgmdkfmaaDoor
