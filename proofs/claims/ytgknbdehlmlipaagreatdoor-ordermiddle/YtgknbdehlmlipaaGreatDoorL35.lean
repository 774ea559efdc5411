/-
  Texts that the proof leans on.
-/
import Derived.Test.YtgknbdehlmlipaaGreatDoorL29
import Derived.Test.YtgknbdehlmlipaaGreatDoorL2
import Derived.Test.YtgknbdehlmlipaaGreatDoorL24
import Derived.Deep.Cut
import Derived.Deep.CutRange
set_option maxHeartbeats 8000000
set_option linter.unusedVariables false
set_option linter.unusedSectionVars false
set_option linter.unusedSimpArgs false
set_option maxRecDepth 20000
namespace Go.Proofs.YtgknbdehlmlipaaGreatDoor
open Go.RowKit
section
attribute [local irreducible] W4 NT NV
section
variable (n:Int)(B R:Nat)(E Er:Int)(w:World)(c x:Int)(s g:Bool)(k:Nat)
variable (hT:Tab w)
include hT
theorem quiet_g
  (c11:∀ w,Tab w->CB 82 #[.int .i64 n,A4 B] w (.tuple #[DV c s g x k,.int .i64 0]))
  (c13:∀ w,Tab w->CB 70 #[.int .i64 n,DV c s false x k] w (.tuple #[A4 R,.int .i64 Er]))
  : CB 83 #[.int .i64 n,A4 B] w (.tuple #[A4 R,.int .i64 Er]):=by
 have hsm:=cell_set_map
 go_enter Tryz.func83,Tryz.ntmps83
 go_wp2_with (first
  | (go_at_call 82;refine (c11 _ ((hT.alloc _).alloc _)).mono ?_;rintro x w1 ⟨rfl,hb1⟩;obtain ⟨_,_,_,_,hA1,_⟩:=wz w hb1;obtain ⟨_,_⟩:=zf hb1 (w.heap.size+1);clear hb1)
  | (go_at_call 70;refine (c13 _ (hT.go bgo)).mono ?_;rintro x w2 ⟨rfl,hb2⟩;obtain ⟨_,_,_,_,hA2,_⟩:=wz w hb2;obtain ⟨_,_⟩:=zf hb2 (w.heap.size+1);obtain ⟨_,_⟩:=zf hb2 w1.heap.size;clear hb2))
 exact bodyPost_ret (v:=.tuple #[A4 R,.int .i64 Er]) (by simp only [results,Tryz.results83];go_simp) rfl ⟨rfl,bgo⟩
theorem quiet_b
  (c11:∀ w,Tab w->CB 82 #[.int .i64 n,A4 B] w (.tuple #[DV c s g x k,.int .i64 1]))
  : CB 83 #[.int .i64 n,A4 B] w (.tuple #[Z4,.int .i64 1]):=by
 have hsm:=cell_set_map
 go_enter Tryz.func83,Tryz.ntmps83
 go_wp2_with (go_at_call 82;refine (c11 _ ((hT.alloc _).alloc _)).mono ?_;rintro x w1 ⟨rfl,hb1⟩;obtain ⟨_,_,_,_,hA1,_⟩:=wz w hb1;obtain ⟨_,_⟩:=zf hb1 (w.heap.size+1);clear hb1)
 exact bodyPost_ret (v:=.tuple #[Z4,.int .i64 1]) (by simp only [results,Tryz.results83];go_simp) rfl ⟨rfl,bgo⟩
end
theorem qu_any (n:Int)(B:Nat)(w:World)(hT:Tab w)(hB:B<2^256) :
  CB 83 #[.int .i64 n,A4 B] w (.tuple #[A4 (quV n B),.int .i64 (quE n B)]):=by
 have c11:=fun w hT=>unpack_any n B w hT hB
 unfold quV quE
 by_cases h:goodN n B
 ·rw [if_pos h,if_pos h]
  rw [show unE n B=0 from if_pos h] at c11
  have c13:=fun w hT=>pack_any n (hush (unD n B)) w hT (unD_k n B)
  exact quiet_g n B _ _ w _ _ _ _ _ hT c11 c13
 ·rw [if_neg h,if_neg h,Z4_eq]
  rw [show unE n B=1 from if_neg h] at c11
  exact quiet_b n B w _ _ _ _ _ hT c11
end
end Go.Proofs.YtgknbdehlmlipaaGreatDoor
