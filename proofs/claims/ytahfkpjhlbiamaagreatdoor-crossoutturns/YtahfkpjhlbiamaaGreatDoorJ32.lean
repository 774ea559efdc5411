/-
  Texts that the proof leans on.
-/
import Derived.Test.YtahfkpjhlbiamaaGreatDoorJ20
import Derived.Test.YtahfkpjhlbiamaaGreatDoorJ1
set_option maxHeartbeats 8000000
set_option linter.unusedVariables false
set_option linter.unusedSectionVars false
set_option linter.unusedSimpArgs false
set_option maxRecDepth 20000
namespace Go.Proofs.YtahfkpjhlbiamaaGreatDoor
open Go.RowKit
section
attribute [local irreducible] W4
attribute [local go_sem ↓] zBe
attribute [local go_sem] zSc
section
variable (n:Int)(w:World)(hT:Tab w)
include hT
variable (dn:Bool)(g t bl:Int)(wo co pa:Nat)(le mo:Int)
variable (B:Nat)(c1:∀ W,Tab W->CB 79 #[.int .i64 n,A4 B] W (.tuple #[LD dn g t bl wo co pa le mo,.int .i64 0]))
 (c x E:Int) (s q:Bool) (k P:Nat)
 (c2:∀ W,CB 80 #[LD dn g t bl wo co pa le mo,A4 B] W (DV c s q x k))
 (c3:∀ W,CB 59 #[LD dn g t bl wo co pa le mo,DV c s q x k] W (.tuple #[A4 P,.int .i64 E]))
include c1 c2 c3
theorem dunp_y (R:Bool)(hR:decide (W4 P 0=W4 B 0/\W4 P 1=W4 B 1/\W4 P 2=W4 B 2/\W4 P 3=W4 B 3)=R):CB 39 #[.int .i64 n,A4 B] w (.tuple #[DV c s q x k,.bool R,.int .i64 0]):=by
 have hsm:=zAa
 have hq:=zPs (W4 P 0) (W4 P 1) (W4 P 2) (W4 P 3) (W4 B 0) (W4 B 1) (W4 B 2) (W4 B 3)
 rw [hR] at hq
 go_enter Tryz.func39,Tryz.ntmps39
 go_wp2_with (first
  | (go_at_call 79;refine wk w (c1 _ ((hT.alloc _).alloc _)) ?_;intro w1 hb1 _ _ _ _ hA1 _;obtain ⟨_,_⟩:=zf hb1 (w.heap.size+1);clear hb1)
  | (go_at_call 80;refine wk w (c2 _) ?_;intro w2 hb2 _ _ _ _ hA2 _;obtain ⟨_,_,_,_⟩:=zg hb2 (w.heap.size+1) w1.heap.size;clear hb2)
  | (go_at_call 59;refine wk w (c3 _) ?_;intro w3 hb3 _ _ _ _ hA3 _;obtain ⟨_,_,_,_,_,_⟩:=zh hb3 (w.heap.size+1) w1.heap.size w2.heap.size;clear hb3))
 go_region_with (fail)
 all_goals
  go_wp2
  exact bodyPost_ret (v:=.tuple #[DV c s q x k,.bool R,.int .i64 0]) (by simp only [results,Tryz.results39];go_simp) rfl ⟨rfl,bgo⟩
end
end
end Go.Proofs.YtahfkpjhlbiamaaGreatDoor
