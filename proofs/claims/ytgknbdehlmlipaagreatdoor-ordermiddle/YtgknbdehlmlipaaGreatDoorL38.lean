/-
  Texts that the proof leans on.
-/
import Derived.Test.YtgknbdehlmlipaaGreatDoorL33
import Derived.Test.YtgknbdehlmlipaaGreatDoorL32
import Derived.Test.YtgknbdehlmlipaaGreatDoorL2
set_option linter.unusedVariables false
set_option linter.unusedSimpArgs false
set_option linter.unusedSectionVars false
set_option maxHeartbeats 8000000
set_option maxRecDepth 20000
namespace Go.Proofs.YtgknbdehlmlipaaGreatDoor
open Go.RowKit
theorem ld_sc {N D c:Nat}(hN:N≠0)(hD:D≠0)(hc:0<c):ld (N*c) (D*c)=ld N D:=by
 have hNc:N*c≠0:=Nat.mul_ne_zero hN (by omega)
 have hDc:D*c≠0:=Nat.mul_ne_zero hD (by omega)
 obtain ⟨K,hK⟩:∃ K:Nat,K=bl D+bl N+bl (D*c)+bl (N*c)+2:=⟨_,rfl⟩
 obtain ⟨h1,h2⟩:=ld_bd hN hD K (by omega)
 obtain ⟨g1,g2⟩:=ld_bd hNc hDc K (by omega)
 have l1:(bl N:Int)-bl D-1<=ld N D/\ld N D<=(bl N:Int)-bl D:=by unfold ld;dsimp only;split<;>omega
 have l2:(bl (N*c):Int)-bl (D*c)-1<=ld (N*c) (D*c)/\ld (N*c) (D*c)<=(bl (N*c):Int)-bl (D*c):=by unfold ld;dsimp only;split<;>omega
 rw [Nat.mul_right_comm D,Nat.mul_right_comm N] at g1 g2
 have g1':=Nat.le_of_mul_le_mul_right g1 hc
 have g2':=Nat.lt_of_mul_lt_mul_right g2
 have a1:=Nat.lt_of_mul_lt_mul_left (Nat.lt_of_le_of_lt h1 g2')
 have a2:=Nat.lt_of_mul_lt_mul_left (Nat.lt_of_le_of_lt g1' h2)
 have b1:=(Nat.pow_lt_pow_iff_right (by decide:1<2)).1 a1
 have b2:=(Nat.pow_lt_pow_iff_right (by decide:1<2)).1 a2
 omega
theorem nr_sc (d:Int)(s:Bool)(N D:Nat){c:Nat}(hc:0<c)(k:Int):nrC d s (N*c) (D*c) k=nrC d s N D k/\(nrR (N*c) (D*c) k=0↔nrR N D k=0):=by
 have eq:nrQ (N*c) (D*c) k=nrQ N D k:=by
  unfold nrQ
  rw [Nat.mul_right_comm N,Nat.mul_right_comm D,Nat.mul_div_mul_right _ _ hc]
 have er:nrR (N*c) (D*c) k=nrR N D k*c:=by
  unfold nrR
  rw [Nat.mul_right_comm N,Nat.mul_right_comm D,Nat.mul_mod_mul_right]
 have ef:nrF d s (N*c) (D*c) k=nrF d s N D k:=by
  unfold nrF
  rw [eq,er,Nat.mul_right_comm D,fa_sc d s _ _ _ c hc]
 refine ⟨?_,?_⟩
 ·unfold nrC
  rw [ef,eq]
 ·rw [er]
  refine ⟨fun h=>?_,fun h=>by rw [h,Nat.zero_mul]⟩
  rcases Nat.mul_eq_zero.1 h with h|h
  ·exact h
  ·omega
theorem rd_sc (n d:Int)(s:Bool)(N:Nat){D c:Nat}(hD:D≠0)(hc:0<c)(x:Int):rdV n d s (N*c) (D*c) x=rdV n d s N D x/\rdF n d s (N*c) (D*c) x=rdF n d s N D x:=by
 by_cases hN:N=0
 ·subst hN
  rw [Nat.zero_mul]
  exact ⟨by unfold rdV;rw [if_pos rfl,if_pos rfl],by unfold rdF;rw [if_pos rfl,if_pos rfl]⟩
 have hNc:N*c≠0:=Nat.mul_ne_zero hN (by omega)
 have el:=ld_sc hN hD hc
 have eX:rX n (N*c) (D*c) x=rX n N D x:=by unfold rX;rw [el]
 have eQ:rQ n (N*c) (D*c) x=rQ n N D x:=by unfold rQ;rw [el,eX]
 have eC:rC n d s (N*c) (D*c) x=rC n d s N D x:=by unfold rC;rw [eX,eQ];exact (nr_sc d s N D hc _).1
 have eR:=(nr_sc d s N D hc (rX n N D x-rQ n N D x)).2
 have eC':rC' n d s (N*c) (D*c) x=rC' n d s N D x:=by unfold rC';rw [eC]
 have eQ':rQ' n d s (N*c) (D*c) x=rQ' n d s N D x:=by unfold rQ';rw [eC,eQ]
 refine ⟨?_,?_⟩
 ·unfold rdV
  rw [if_neg hN,if_neg hNc,eC',eQ']
 ·unfold rdF
  rw [if_neg hN,if_neg hNc,eQ',eX,eQ,el]
  simp only [eR]
section
attribute [local irreducible] W4
attribute [local go_sem ↓] ld18_eq
attribute [local go_sem] ld18_got
section
variable (n:Int)(w:World)(hT:Tab w)
include hT
variable (dn:Bool)(g t bl:Int)(wo co pa:Nat)(le mo:Int)
variable (B:Nat)(c1:∀ W,Tab W->CB 92 #[.int .i64 n,A4 B] W (.tuple #[LD dn g t bl wo co pa le mo,.int .i64 0]))
 (c x E:Int) (s q:Bool) (k P:Nat)
 (c2:∀ W,CB 93 #[LD dn g t bl wo co pa le mo,A4 B] W (DV c s q x k))
 (c3:∀ W,CB 94 #[LD dn g t bl wo co pa le mo,DV c s q x k] W (.tuple #[A4 P,.int .i64 E]))
include c1 c2 c3
theorem dunp_y (R:Bool)(hR:decide (W4 P 0=W4 B 0/\W4 P 1=W4 B 1/\W4 P 2=W4 B 2/\W4 P 3=W4 B 3)=R):CB 66 #[.int .i64 n,A4 B] w (.tuple #[DV c s q x k,.bool R,.int .i64 0]):=by
 have hsm:=cell_set_map
 have hq:=eq24 (W4 P 0) (W4 P 1) (W4 P 2) (W4 P 3) (W4 B 0) (W4 B 1) (W4 B 2) (W4 B 3)
 rw [hR] at hq
 go_enter Tryz.func66,Tryz.ntmps66
 go_wp2_with (first
  | (go_at_call 92;refine (c1 _ ((hT.alloc _).alloc _)).mono ?_;rintro r w1 ⟨rfl,hb1⟩;obtain ⟨_,_,_,_,hA1,_⟩:=wz w hb1;obtain ⟨_,_⟩:=zf hb1 (w.heap.size+1);clear hb1)
  | (go_at_call 93;refine (c2 _).mono ?_;rintro r w2 ⟨rfl,hb2⟩;obtain ⟨_,_,_,_,hA2,_⟩:=wz w hb2;obtain ⟨_,_⟩:=zf hb2 (w.heap.size+1);obtain ⟨_,_⟩:=zf hb2 w1.heap.size;clear hb2)
  | (go_at_call 94;refine (c3 _).mono ?_;rintro r w3 ⟨rfl,hb3⟩;obtain ⟨_,_,_,_,hA3,_⟩:=wz w hb3;obtain ⟨_,_⟩:=zf hb3 (w.heap.size+1);obtain ⟨_,_⟩:=zf hb3 w1.heap.size;obtain ⟨_,_⟩:=zf hb3 w2.heap.size;clear hb3))
 go_region_with (fail)
 all_goals
  go_wp2
  exact bodyPost_ret (v:=.tuple #[DV c s q x k,.bool R,.int .i64 0]) (by simp only [results,Tryz.results66];go_simp) rfl ⟨rfl,bgo⟩
end
end
end Go.Proofs.YtgknbdehlmlipaaGreatDoor
