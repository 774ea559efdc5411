/-
  Texts that the proof leans on.
-/
import Derived.Test.YtjfeaiaafbaobaaGreatDoorJ17
import Derived.Test.YtjfeaiaafbaobaaGreatDoorJ1
set_option maxHeartbeats 8000000
set_option linter.unusedVariables false
set_option linter.unusedSectionVars false
set_option linter.unusedSimpArgs false
set_option maxRecDepth 20000
namespace Go.Proofs.YtjfeaiaafbaobaaGreatDoor
open Go.RowKit
section
attribute [local irreducible] W4
def wiZ (f:Nat)(l m lead x:Int):Int:=min (max x (l-2-lead)) (m+((f:Int)+1)-lead)
theorem within_any (n:Int)(nm:ByteArray)(wd:Int)(f e:Nat)(l m lead x:Int)(w:World)(hf:f<=300)(hl:-100000<=l/\l<=100000)(hm:-100000<=m/\m<=100000)(hd:-100000<=lead/\lead<=100000) :
  CB 113 #[DI n nm wd f e l m,.int .i64 lead,.int .i64 x] w (.int .i64 (wiZ f l m lead x)):=by
 go_enter Tryz.func113,Tryz.ntmps113
 go_wp2
 go_ret
 exact ⟨by first|rfl|simp [wiZ],bgo⟩
section
variable (n:Int)(nm:ByteArray)(wd:Int)(f e:Nat)(l m d:Int)(s:Bool)(R:Nat)(E:Int)(w:World)(hT:Tab w)
include hT
theorem overflow_i (h:inB d s=true)
  (c56:∀ W,Tab W->CB 32 #[.int .i64 n,.agg #[.int .i64 2,.bool s,.bool false,.int .i64 0,.int .u64 0,.int .u64 0,.int .u64 0,.int .u64 0]] W (.tuple #[A4 R,.int .i64 E])) :
  CB 117 #[DI n nm wd f e l m,.int .i64 d,.bool s] w (.tuple #[A4 R,.int .i64 10,.int .i64 E]):=by
 have hsm:=cell_set_map
 have c64:=infinite_any d s
 rw [h] at c64
 go_enter Tryz.func117,Tryz.ntmps117
 go_wp2_with (first
  | (go_at_call 171;refine (c64 _).mono ?_;rintro r w0 ⟨rfl,rfl⟩)
  | (go_at_call 32;refine (c56 _ (hT.go bgo)).mono ?_;rintro r w1 ⟨rfl,hb1⟩;obtain ⟨_,_,_,_,hA1,_⟩:=wz w hb1;obtain ⟨_,_⟩:=zf hb1 (w.heap.size+1);obtain ⟨_,_⟩:=zf hb1 (w.heap.size+2);obtain ⟨_,_⟩:=zf hb1 (w.heap.size+1+1);clear hb1))
 exact bodyPost_ret (v:=.tuple #[A4 R,.int .i64 10,.int .i64 E]) (by simp only [results,Tryz.results117];go_simp) rfl ⟨rfl,bgo⟩
theorem overflow_l (h:inB d s=false)
  (c65:∀ W,Tab W->CB 172 #[.int .i64 n,.bool s] W (.tuple #[A4 R,.int .i64 E])) :
  CB 117 #[DI n nm wd f e l m,.int .i64 d,.bool s] w (.tuple #[A4 R,.int .i64 10,.int .i64 E]):=by
 have hsm:=cell_set_map
 have c64:=infinite_any d s
 rw [h] at c64
 go_enter Tryz.func117,Tryz.ntmps117
 go_wp2_with (first
  | (go_at_call 171;refine (c64 _).mono ?_;rintro r w0 ⟨rfl,rfl⟩)
  | (go_at_call 172;refine (c65 _ (hT.go bgo)).mono ?_;rintro r w1 ⟨rfl,hb1⟩;obtain ⟨_,_,_,_,hA1,_⟩:=wz w hb1;obtain ⟨_,_⟩:=zf hb1 (w.heap.size+1);obtain ⟨_,_⟩:=zf hb1 (w.heap.size+2);obtain ⟨_,_⟩:=zf hb1 (w.heap.size+1+1);clear hb1))
 exact bodyPost_ret (v:=.tuple #[A4 R,.int .i64 10,.int .i64 E]) (by simp only [results,Tryz.results117];go_simp) rfl ⟨rfl,bgo⟩
end
abbrev IZ:Value:=.agg #[.int .i64 0,.string ⟨#[]⟩,.int .i64 0,.int .i64 0,.int .i64 0,.int .i64 0,.int .i64 0,.int .i64 0,.int .i64 0,.bool false]
section
variable (n d:Int)(nm:ByteArray)(wd:Int)(f e:Nat)(l m:Int)(N D:Nat)(vn vd I:Value)(w:World)(hT:Tab w)
 (c26:∀ W,Below w.heap.size w W->CQ 110 #[vn] W (.int .i64 (bl N:Int)))
 (c26d:∀ W,Below w.heap.size w W->CQ 110 #[vd] W (.int .i64 (bl D:Int)))
include hT c26 c26d
theorem check_k (hd:decide (knB d)=true)(hD:(((bl D:Nat):Int)==0)=false)(hN:¬ (51200:Int)<(bl N:Int))(hDl:¬ (51200:Int)<(bl D:Int))(c52:∀ W,Tab W->CB 59 #[.int .i64 n] W (.tuple #[DI n nm wd f e l m,.int .i64 0])):CB 109 #[.int .i64 n,.int .i64 d,vn,vd] w (.tuple #[DI n nm wd f e l m,.int .i64 0]):=by
 have hsm:=cell_set_map
 have c53:=known_any d
 rw [hd] at c53
 go_enter Tryz.func109,Tryz.ntmps109
 go_wp2_with (first
  | (go_at_call 59;refine (c52 _ (hT.go bgo)).mono ?_;rintro r w1 ⟨rfl,hb1⟩;obtain ⟨_,_,_,_,hA1,_⟩:=wz w hb1;clear hb1)
  | (go_at_call 60;refine (c53 _).mono ?_;rintro r w2 ⟨rfl,rfl⟩)
  | (go_at_call_of 110 vn;refine (c26 _ bgo).mono ?_;rintro r w3 ⟨rfl,rfl⟩)
  | (go_at_call_of 110 vd;refine (c26d _ bgo).mono ?_;rintro r w3 ⟨rfl,rfl⟩))
 exact bodyPost_ret (v:=.tuple #[DI n nm wd f e l m,.int .i64 0]) (by simp only [results,Tryz.results109];go_simp) rfl ⟨rfl,bgo⟩
end
end
end Go.Proofs.YtjfeaiaafbaobaaGreatDoor
