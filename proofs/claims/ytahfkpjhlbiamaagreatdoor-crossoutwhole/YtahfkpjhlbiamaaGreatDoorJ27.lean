/-
  Texts that the proof leans on.
-/
import Derived.Test.YtahfkpjhlbiamaaGreatDoorJ20
import Derived.Test.YtahfkpjhlbiamaaGreatDoorJ1
set_option maxHeartbeats 8000000
set_option linter.unusedVariables false
set_option linter.unusedSectionVars false
set_option linter.unusedSimpArgs false
set_option maxRecDepth 20000
namespace Go.Proofs.YtahfkpjhlbiamaaGreatDoor
open Go.RowKit
section
attribute [local irreducible] W4
attribute [local go_sem ↓] zBe
attribute [local go_sem] zSc
section
variable (n:Int)(B:Nat)(w:World)(hT:Tab w)
include hT
theorem zT6 (c1:∀ W,Tab W->CB 70 #[.int .i64 n,A4 B] W (.bool false)) :
  CB 79 #[.int .i64 n,A4 B] w (.tuple #[ZL,.int .i64 1]):=by
 have hsm:=zAa
 go_enter Tryz.func79,Tryz.ntmps79
 go_wp2_with (go_at_call 70;refine wk w (c1 _ ((hT.alloc _).alloc _)) ?_;intro w1 hb1 _ _ _ _ hA1 _;obtain ⟨_,_⟩:=zf hb1 (w.heap.size+1);clear hb1)
 exact bodyPost_ret (by simp only [results,Tryz.results79];go_simp) rfl ⟨rfl,bgo⟩
variable (c1:∀ W,Tab W->CB 70 #[.int .i64 n,A4 B] W (.bool true))
include c1
theorem dfor_b (c2:∀ W,Tab W->CB 58 #[.int .i64 n] W (.tuple #[ZL,.int .i64 1])) :
  CB 79 #[.int .i64 n,A4 B] w (.tuple #[ZL,.int .i64 1]):=by
 have hsm:=zAa
 go_enter Tryz.func79,Tryz.ntmps79
 go_wp2_with (first
  | (go_at_call 70;refine (c1 _ ((hT.alloc _).alloc _)).mono ?_;rintro r w1 ⟨rfl,hb1⟩;have hT1:=((hT.alloc _).alloc _).go hb1;obtain ⟨_,_,_,_,hA1,_⟩:=wz w hb1;obtain ⟨_,_⟩:=zf hb1 (w.heap.size+1);clear hb1)
  | (go_at_call 58;refine wk w (c2 _ hT1) ?_;intro w2 hb2 _ _ _ _ hA2 _;obtain ⟨_,_⟩:=zf hb2 (w.heap.size+1);clear hb2))
 exact bodyPost_ret (by simp only [results,Tryz.results79];go_simp) rfl ⟨rfl,bgo⟩
theorem dfor_y (dn:Bool)(g t bl:Int)(wo co pa:Nat)(le mo:Int)
  (c2:∀ W,Tab W->CB 58 #[.int .i64 n] W (.tuple #[LD dn g t bl wo co pa le mo,.int .i64 0])) :
  CB 79 #[.int .i64 n,A4 B] w (.tuple #[LD dn g t bl wo co pa le mo,.int .i64 0]):=by
 have hsm:=zAa
 go_enter Tryz.func79,Tryz.ntmps79
 go_wp2_with (first
  | (go_at_call 70;refine (c1 _ ((hT.alloc _).alloc _)).mono ?_;rintro r w1 ⟨rfl,hb1⟩;have hT1:=((hT.alloc _).alloc _).go hb1;obtain ⟨_,_,_,_,hA1,_⟩:=wz w hb1;obtain ⟨_,_⟩:=zf hb1 (w.heap.size+1);clear hb1)
  | (go_at_call 58;refine wk w (c2 _ hT1) ?_;intro w2 hb2 _ _ _ _ hA2 _;obtain ⟨_,_⟩:=zf hb2 (w.heap.size+1);clear hb2))
 exact bodyPost_ret (v:=.tuple #[LD dn g t bl wo co pa le mo,.int .i64 0]) (by simp only [results,Tryz.results79];go_simp) rfl ⟨rfl,bgo⟩
end
end
end Go.Proofs.YtahfkpjhlbiamaaGreatDoor
