/-
  Texts that the proof leans on.
-/
import Derived.Test.YtgknbdehlmlipaaGreatDoorL13
import Derived.Test.YtgknbdehlmlipaaGreatDoorL2
set_option maxHeartbeats 8000000
set_option linter.unusedVariables false
set_option linter.unusedSectionVars false
set_option linter.unusedSimpArgs false
set_option maxRecDepth 20000
namespace Go.Proofs.YtgknbdehlmlipaaGreatDoor
open Go.RowKit
theorem dlG_lt {n:Nat}(hn:n<1000):dlG n<8:=by
 unfold dlG;omega
theorem row_v (g:Nat)(hg:g<8)(w:World):CB 116 #[.int .i64 (g:Int)] w (.agg #[.int .i64 ((dlR g).1:Int),.int .i64 ((dlR g).2.1:Int),.int .i64 ((dlR g).2.2:Int)]):=by
 have h:g=0∨g=1∨g=2∨g=3∨g=4∨g=5∨g=6∨g=7:=by omega
 rcases h with rfl|rfl|rfl|rfl|rfl|rfl|rfl|rfl
 all_goals (
  go_enter Tryz.func116,Tryz.ntmps116
  go_wp2
  exact bodyPost_ret (by simp only [results,Tryz.results116];go_simp;exact ⟨rfl,rfl,rfl⟩) rfl ⟨rfl,bgo⟩)
end Go.Proofs.YtgknbdehlmlipaaGreatDoor
