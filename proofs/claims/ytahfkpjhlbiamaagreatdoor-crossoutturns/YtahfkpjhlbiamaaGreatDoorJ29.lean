/-
  Texts that the proof leans on.
-/
import Derived.Test.YtahfkpjhlbiamaaGreatDoorJ20
import Derived.Test.YtahfkpjhlbiamaaGreatDoorJ1
set_option maxHeartbeats 8000000
set_option linter.unusedVariables false
set_option linter.unusedSectionVars false
set_option linter.unusedSimpArgs false
set_option maxRecDepth 20000
namespace Go.Proofs.YtahfkpjhlbiamaaGreatDoor
open Go.RowKit
section
attribute [local irreducible] W4
attribute [local go_sem ↓] zBe
attribute [local go_sem] zSc
section
variable (n:Int)(w:World)(hT:Tab w)
include hT
theorem zU4 (c x:Int)(s q:Bool)(k:Nat)(c1:∀ W,Tab W->CB 58 #[.int .i64 n] W (.tuple #[ZL,.int .i64 1])) :
  CB 27 #[.int .i64 n,DV c s q x k] w (.tuple #[A4 0,.int .i64 1]):=by
 have hsm:=zAa
 rw [zBc]
 go_enter Tryz.func27,Tryz.ntmps27
 go_wp2_with (go_at_call 58;refine wk w (c1 _ ((hT.alloc _).alloc _)) ?_;intro w1 hb1 _ _ _ _ hA1 _;obtain ⟨_,_⟩:=zf hb1 (w.heap.size+1);clear hb1)
 exact bodyPost_ret (by simp only [results,Tryz.results27];go_simp) rfl ⟨rfl,bgo⟩
variable (dn:Bool)(g t bl:Int)(wo co pa:Nat)(le mo:Int)
theorem zT4 (c x E:Int)(s q:Bool)(k P:Nat)(c1:∀ W,Tab W->CB 58 #[.int .i64 n] W (.tuple #[LD dn g t bl wo co pa le mo,.int .i64 0]))
  (c2:∀ W,CB 59 #[LD dn g t bl wo co pa le mo,DV c s q x k] W (.tuple #[A4 P,.int .i64 E])) :
  CB 27 #[.int .i64 n,DV c s q x k] w (.tuple #[A4 P,.int .i64 E]):=by
 have hsm:=zAa
 go_enter Tryz.func27,Tryz.ntmps27
 go_wp2_with (first
  | (go_at_call 58;refine wk w (c1 _ ((hT.alloc _).alloc _)) ?_;intro w1 hb1 _ _ _ _ hA1 _;obtain ⟨_,_⟩:=zf hb1 (w.heap.size+1);clear hb1)
  | (go_at_call 59;refine wk w (c2 _) ?_;intro w2 hb2 _ _ _ _ hA2 _;obtain ⟨_,_,_,_⟩:=zg hb2 (w.heap.size+1) w1.heap.size;clear hb2))
 exact bodyPost_ret (v:=.tuple #[A4 P,.int .i64 E]) (by simp only [results,Tryz.results27];go_simp) rfl ⟨rfl,bgo⟩
end
end
end Go.Proofs.YtahfkpjhlbiamaaGreatDoor
