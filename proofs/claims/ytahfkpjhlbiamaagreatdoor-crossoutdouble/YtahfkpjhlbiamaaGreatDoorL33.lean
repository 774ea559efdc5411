/-
  Texts that the proof leans on.
-/
import Derived.Test.YtahfkpjhlbiamaaGreatDoorL28
import Derived.Test.YtahfkpjhlbiamaaGreatDoorL29
import Derived.Test.YtahfkpjhlbiamaaGreatDoorL1
set_option maxHeartbeats 8000000
set_option linter.unusedVariables false
set_option linter.unusedSectionVars false
set_option linter.unusedSimpArgs false
set_option maxRecDepth 20000
namespace Go.Proofs.YtahfkpjhlbiamaaGreatDoor
open Go.RowKit
section
abbrev ZL:Value:=.agg zs
attribute [local irreducible] W4
attribute [local go_sem ↓] ld18_eq
attribute [local go_sem] ld18_got
section
variable (n:Int)(nm:ByteArray)(num base wd pr ex le mo py:Int)(dn:Bool)(w:World)(hT:Tab w)
include hT
theorem dlay_e (E:Int)(hE:(E != 0)=true)
  (c1:∀ W,Tab W->CB 53 #[.int .i64 n] W (.tuple #[.agg #[.int .i64 num,.string nm,.int .i64 base,.int .i64 wd,.int .i64 pr,.int .i64 ex,.int .i64 le,.int .i64 mo,.int .i64 py,.bool dn],.int .i64 E])) :
  CB 58 #[.int .i64 n] w (.tuple #[ZL,.int .i64 1]):=by
 have hsm:=cell_set_map
 go_enter Tryz.func58,Tryz.ntmps58
 go_wp2_with (go_at_call 53;refine (c1 _ (hT.alloc _)).mono ?_;rintro r w1 ⟨rfl,hb1⟩;obtain ⟨_,_,_,_,hA1,_⟩:=wz w hb1;clear hb1)
 exact bodyPost_ret (by simp only [results,Tryz.results58];go_simp) rfl ⟨rfl,bgo⟩
theorem dlay_b (hB:(base != 10)=true)
  (c1:∀ W,Tab W->CB 53 #[.int .i64 n] W (.tuple #[.agg #[.int .i64 num,.string nm,.int .i64 base,.int .i64 wd,.int .i64 pr,.int .i64 ex,.int .i64 le,.int .i64 mo,.int .i64 py,.bool dn],.int .i64 0])) :
  CB 58 #[.int .i64 n] w (.tuple #[ZL,.int .i64 1]):=by
 have hsm:=cell_set_map
 go_enter Tryz.func58,Tryz.ntmps58
 go_wp2_with (go_at_call 53;refine (c1 _ (hT.alloc _)).mono ?_;rintro r w1 ⟨rfl,hb1⟩;obtain ⟨_,_,_,_,hA1,_⟩:=wz w hb1;clear hb1)
 exact bodyPost_ret (by simp only [results,Tryz.results58];go_simp) rfl ⟨rfl,bgo⟩
end
end
end Go.Proofs.YtahfkpjhlbiamaaGreatDoor
