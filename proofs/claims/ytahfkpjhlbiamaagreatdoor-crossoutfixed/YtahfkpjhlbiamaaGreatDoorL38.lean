/-
  Texts that the proof leans on.
-/
import Derived.Test.YtahfkpjhlbiamaaGreatDoorL36
import Derived.Test.YtahfkpjhlbiamaaGreatDoorL1
import Derived.Test.YtahfkpjhlbiamaaGreatDoorL32
import Derived.Test.YtahfkpjhlbiamaaGreatDoorL23
import Derived.Test.YtahfkpjhlbiamaaGreatDoorL29
import Derived.Test.YtahfkpjhlbiamaaGreatDoorL28
import Derived.Test.YtahfkpjhlbiamaaGreatDoorL6
set_option linter.unusedVariables false
set_option linter.unusedSectionVars false
set_option linter.unusedSimpArgs false
set_option maxRecDepth 20000
namespace Go.Proofs.YtahfkpjhlbiamaaGreatDoor
open Go.RowKit
section
def vUD (n:Int)(B:Nat):Dat:=if goodD n B then vM (fD n) B else ⟨0,false,false,0,0⟩
def vUC (n:Int)(B:Nat):Bool:=decide (goodD n B/\vP (fD n) (vM (fD n) B)=B)
def vUE (n:Int)(B:Nat):Int:=if goodD n B then 0 else 1
theorem vUD_256 (n:Int)(B:Nat):(vUD n B).k<2^256:=by
 unfold vUD
 split
 ·exact vM_256 (fD_ok n) B
 ·decide
theorem eq_words {X Y:Nat}(hX:X<2^256)(hY:Y<2^256):decide (W4 X 0=W4 Y 0/\W4 X 1=W4 Y 1/\W4 X 2=W4 Y 2/\W4 X 3=W4 Y 3)=decide (X=Y):=by
 refine decide_eq_decide.2 ⟨fun ⟨h0,h1,h2,h3⟩=>A4_inj hX hY fun i hi=>?_,fun h=>by rw [h];exact ⟨rfl,rfl,rfl,rfl⟩⟩
 have:i=0∨i=1∨i=2∨i=3:=by omega
 rcases this with rfl|rfl|rfl|rfl
 ·exact h0
 ·exact h1
 ·exact h2
 ·exact h3
attribute [local irreducible] W4
section
variable (n:Int)(B:Nat)(w:World)
end
theorem zero_v:(Dat.mk 0 false false 0 0).v=.agg #[.int .i64 0,.bool false,.bool false,.int .i64 0,.int .u64 0,.int .u64 0,.int .u64 0,.int .u64 0]:=by unfold Dat.v DV;simp only [W4_zero]
end
end Go.Proofs.YtahfkpjhlbiamaaGreatDoor
