/-
  Texts that the proof leans on.
-/
import Derived.Test.YtgknbdehlmlipaaGreatDoorL32
import Derived.Test.YtgknbdehlmlipaaGreatDoorL2
set_option maxHeartbeats 8000000
set_option linter.unusedVariables false
set_option linter.unusedSectionVars false
set_option linter.unusedSimpArgs false
set_option maxRecDepth 20000
namespace Go.Proofs.YtgknbdehlmlipaaGreatDoor
open Go.RowKit
section
attribute [local irreducible] W4
attribute [local go_sem ↓] ld18_eq
attribute [local go_sem] ld18_got
section
variable (n:Int)(B:Nat)(w:World)(hT:Tab w)
include hT
theorem dfor_n (c1:∀ W,Tab W->CB 119 #[.int .i64 n,A4 B] W (.bool false)) :
  CB 92 #[.int .i64 n,A4 B] w (.tuple #[ZL,.int .i64 1]):=by
 have hsm:=cell_set_map
 go_enter Tryz.func92,Tryz.ntmps92
 go_wp2_with (go_at_call 119;refine (c1 _ ((hT.alloc _).alloc _)).mono ?_;rintro r w1 ⟨rfl,hb1⟩;obtain ⟨_,_,_,_,hA1,_⟩:=wz w hb1;obtain ⟨_,_⟩:=zf hb1 (w.heap.size+1);clear hb1)
 exact bodyPost_ret (by simp only [results,Tryz.results92];go_simp) rfl ⟨rfl,bgo⟩
variable (c1:∀ W,Tab W->CB 119 #[.int .i64 n,A4 B] W (.bool true))
include c1
theorem dfor_b (c2:∀ W,Tab W->CB 120 #[.int .i64 n] W (.tuple #[ZL,.int .i64 1])) :
  CB 92 #[.int .i64 n,A4 B] w (.tuple #[ZL,.int .i64 1]):=by
 have hsm:=cell_set_map
 go_enter Tryz.func92,Tryz.ntmps92
 go_wp2_with (first
  | (go_at_call 119;refine (c1 _ ((hT.alloc _).alloc _)).mono ?_;rintro r w1 ⟨rfl,hb1⟩;have hT1:=((hT.alloc _).alloc _).go hb1;obtain ⟨_,_,_,_,hA1,_⟩:=wz w hb1;obtain ⟨_,_⟩:=zf hb1 (w.heap.size+1);clear hb1)
  | (go_at_call 120;refine (c2 _ hT1).mono ?_;rintro r w2 ⟨rfl,hb2⟩;obtain ⟨_,_,_,_,hA2,_⟩:=wz w hb2;obtain ⟨_,_⟩:=zf hb2 (w.heap.size+1);clear hb2))
 exact bodyPost_ret (by simp only [results,Tryz.results92];go_simp) rfl ⟨rfl,bgo⟩
theorem dfor_y (dn:Bool)(g t bl:Int)(wo co pa:Nat)(le mo:Int)
  (c2:∀ W,Tab W->CB 120 #[.int .i64 n] W (.tuple #[LD dn g t bl wo co pa le mo,.int .i64 0])) :
  CB 92 #[.int .i64 n,A4 B] w (.tuple #[LD dn g t bl wo co pa le mo,.int .i64 0]):=by
 have hsm:=cell_set_map
 go_enter Tryz.func92,Tryz.ntmps92
 go_wp2_with (first
  | (go_at_call 119;refine (c1 _ ((hT.alloc _).alloc _)).mono ?_;rintro r w1 ⟨rfl,hb1⟩;have hT1:=((hT.alloc _).alloc _).go hb1;obtain ⟨_,_,_,_,hA1,_⟩:=wz w hb1;obtain ⟨_,_⟩:=zf hb1 (w.heap.size+1);clear hb1)
  | (go_at_call 120;refine (c2 _ hT1).mono ?_;rintro r w2 ⟨rfl,hb2⟩;obtain ⟨_,_,_,_,hA2,_⟩:=wz w hb2;obtain ⟨_,_⟩:=zf hb2 (w.heap.size+1);clear hb2))
 exact bodyPost_ret (v:=.tuple #[LD dn g t bl wo co pa le mo,.int .i64 0]) (by simp only [results,Tryz.results92];go_simp) rfl ⟨rfl,bgo⟩
end
end
end Go.Proofs.YtgknbdehlmlipaaGreatDoor
