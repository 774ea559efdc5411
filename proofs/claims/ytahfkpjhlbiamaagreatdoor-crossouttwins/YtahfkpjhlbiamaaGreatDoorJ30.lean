/-
  Texts that the proof leans on.
-/
import Derived.Test.YtahfkpjhlbiamaaGreatDoorJ20
import Derived.Test.YtahfkpjhlbiamaaGreatDoorJ1
set_option maxHeartbeats 8000000
set_option linter.unusedVariables false
set_option linter.unusedSectionVars false
set_option linter.unusedSimpArgs false
set_option maxRecDepth 20000
namespace Go.Proofs.YtahfkpjhlbiamaaGreatDoor
open Go.RowKit
section
attribute [local irreducible] W4
attribute [local go_sem ↓] zBe
attribute [local go_sem] zSc
section
variable (n:Int)(w:World)(hT:Tab w)
include hT
theorem dunp_n (B:Nat)(c1:∀ W,Tab W->CB 79 #[.int .i64 n,A4 B] W (.tuple #[ZL,.int .i64 1])) :
  CB 39 #[.int .i64 n,A4 B] w (.tuple #[.agg #[.int .i64 0,.bool false,.bool false,.int .i64 0,.int .u64 0,.int .u64 0,.int .u64 0,.int .u64 0],.bool false,.int .i64 1]):=by
 have hsm:=zAa
 go_enter Tryz.func39,Tryz.ntmps39
 go_wp2_with (go_at_call 79;refine wk w (c1 _ ((hT.alloc _).alloc _)) ?_;intro w1 hb1 _ _ _ _ hA1 _;obtain ⟨_,_⟩:=zf hb1 (w.heap.size+1);clear hb1)
 exact bodyPost_ret (by simp only [results,Tryz.results39];go_simp) rfl ⟨rfl,bgo⟩
end
end
end Go.Proofs.YtahfkpjhlbiamaaGreatDoor
