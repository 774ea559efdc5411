/-
  Texts that the proof leans on.
-/
import Derived.Test.YtgknbdehlmlipaaGreatDoorJ42
import Derived.Test.YtgknbdehlmlipaaGreatDoorJ2
set_option maxHeartbeats 8000000
set_option linter.unusedVariables false
set_option linter.unusedSectionVars false
set_option linter.unusedSimpArgs false
set_option maxRecDepth 20000
namespace Go.Proofs.YtgknbdehlmlipaaGreatDoor
open Go.RowKit
section
attribute [local irreducible] W4 Nt Nz NT
section
variable (c x b:Int)(s g:Bool)(k:Nat)(hk:k<2^256)(c' x' b':Int)(s' g':Bool)(k':Nat)(hk':k'<2^256)(w:World)
theorem sz_inf (h:(c==2)=true∨((c==2)=false/\(c'==2)=true)) :
  CB 33 #[OV c s g x k b,OV c' s' g' x' k' b'] w (.int .i64 (sgn c c')):=by
 have hsm:=cell_set_map
 have c9:=fun W=>compare_int c c' W
 rcases h with h|⟨h,h'⟩
 all_goals
  go_enter Tryz.func33,Tryz.ntmps33
  go_wp2_with (go_at_call 72;refine (c9 _).mono ?_;rintro r w1 ⟨rfl,rfl⟩)
  go_ret
  exact ⟨by first|rfl|simp,bgo⟩
variable (hc:(c==2)=false)(hc':(c'==2)=false)
include hk hk' hc hc'
theorem sz_nought (n1 n2:Bool)(h:n1=true∨(n1=false/\n2=true))
  (c1:∀ W,CB 31 #[OV c s g x k b] W (.bool n1))
  (c2:∀ W,CB 31 #[OV c' s' g' x' k' b'] W (.bool n2))
  (R:Int) (c3:∀ W v v',Nt 4 k v W->Nt 4 k' v' W->CB 73 #[v,v'] W (.int .i64 R)) :
  CB 33 #[OV c s g x k b,OV c' s' g' x' k' b'] w (.int .i64 R):=by
 have hbx:=fun W hW=>op_new (w0:=w) (w:=W) (c:=c) (s:=s) (g:=g) (x:=x) (b:=b) (t:=60) hk hW
 have hby:∀ W,Below ((w.alloc (.cells (OCs c s g x k b) 60)).alloc (.cells (OCs c' s' g' x' k' b') 60)).heap.size ((w.alloc (.cells (OCs c s g x k b) 60)).alloc (.cells (OCs c' s' g' x' k' b') 60)) W->Nt 4 k' (.slice (some ⟨w.heap.size+1,4,none⟩) 4 4) W:=fun W hW=>by
  have:=op_new (w0:=w.alloc (.cells (OCs c s g x k b) 60)) (w:=W) (c:=c') (s:=s') (g:=g') (x:=x') (b:=b') (t:=60) hk' hW
  rwa [show (w.alloc (.cells (OCs c s g x k b) 60)).heap.size=w.heap.size+1 by simp] at this
 clear hk hk'
 have hsm:=cell_set_map
 rcases h with rfl|⟨rfl,rfl⟩
 ·go_enter Tryz.func33,Tryz.ntmps33
  go_wp2_with (go_at_call 31;refine (c1 _).mono ?_;rintro r w1 ⟨rfl,hb1⟩;have hq0:=hbx _ (bnx (below1 _ _) hb1);have hq1:=hby _ hb1;obtain ⟨_,_,_,_,hA1,_⟩:=wz w hb1;obtain ⟨_,_⟩:=zf hb1 (w.heap.size+1);clear hb1)
  refine wp_tail 6 (by kernel_rfl) (by kernel_rfl) (by kernel_rfl) (fun _ _ d _ _ h=>by cases d<;>exact h) fun hne hcell=>?_
  simp only [List.take_succ_cons,List.take_zero,List.drop_succ_cons,List.drop_zero]
  repeat go_big_quiet_step (fail)
  refine wpQuiet_nil fun w2 hb2=>?_
  have hv0:=hq0.next hb2
  have hv1:=hq1.next hb2
  obtain ⟨_,_,_,_,hA2,_⟩:=wz w hb2;obtain ⟨_,_⟩:=zf hb2 (w.heap.size+1);clear hb2
  go_wp2_with (go_at_call 73;refine (c3 _ _ _ hv0 hv1).mono ?_;rintro r w3 ⟨rfl,hb3⟩;obtain ⟨_,_,_,_,hA3,_⟩:=wz w hb3;obtain ⟨_,_⟩:=zf hb3 (w.heap.size+1);clear hb3)
  go_ret
  exact ⟨by first|rfl|simp,bgo⟩
 ·go_enter Tryz.func33,Tryz.ntmps33
  go_wp2_with (first
   | (have:=hA1;go_at_call 31;refine (c2 _).mono ?_;rintro r w4 ⟨rfl,hb4⟩;have hq0:=hp0.next hb4;have hq1:=hp1.next hb4;obtain ⟨_,_,_,_,hA4,_⟩:=wz w hb4;obtain ⟨_,_⟩:=zf hb4 (w.heap.size+1);clear hb4)
   | (go_at_call 31;refine (c1 _).mono ?_;rintro r w1 ⟨rfl,hb1⟩;have hp0:=hbx _ (bnx (below1 _ _) hb1);have hp1:=hby _ hb1;obtain ⟨_,_,_,_,hA1,_⟩:=wz w hb1;obtain ⟨_,_⟩:=zf hb1 (w.heap.size+1);clear hb1))
  refine wp_tail 6 (by kernel_rfl) (by kernel_rfl) (by kernel_rfl) (fun _ _ d _ _ h=>by cases d<;>exact h) fun hne hcell=>?_
  simp only [List.take_succ_cons,List.take_zero,List.drop_succ_cons,List.drop_zero]
  repeat go_big_quiet_step (fail)
  refine wpQuiet_nil fun w2 hb2=>?_
  have hv0:=hq0.next hb2
  have hv1:=hq1.next hb2
  obtain ⟨_,_,_,_,hA2,_⟩:=wz w hb2;obtain ⟨_,_⟩:=zf hb2 (w.heap.size+1);clear hb2
  go_wp2_with (go_at_call 73;refine (c3 _ _ _ hv0 hv1).mono ?_;rintro r w3 ⟨rfl,hb3⟩;obtain ⟨_,_,_,_,hA3,_⟩:=wz w hb3;obtain ⟨_,_⟩:=zf hb3 (w.heap.size+1);clear hb3)
  go_ret
  exact ⟨by first|rfl|simp,bgo⟩
theorem sz_far (L U L' U' R:Int)(h:(U<=L'/\R=-1)∨(¬ U<=L'/\U'<=L/\R=1))
  (c1:∀ W,CB 31 #[OV c s g x k b] W (.bool false))
  (c2:∀ W,CB 31 #[OV c' s' g' x' k' b'] W (.bool false))
  (c3:∀ W,CB 74 #[OV c s g x k b] W (.tuple #[.int .i64 L,.int .i64 U]))
  (c4:∀ W,CB 74 #[OV c' s' g' x' k' b'] W (.tuple #[.int .i64 L',.int .i64 U'])) :
  CB 33 #[OV c s g x k b,OV c' s' g' x' k' b'] w (.int .i64 R):=by
 have hsm:=cell_set_map
 rcases h with ⟨h,rfl⟩|⟨h,h',rfl⟩
 all_goals
  go_enter Tryz.func33,Tryz.ntmps33
  go_wp2_with (first
   | (have:=hA1;go_at_call 31;refine (c2 _).mono ?_;rintro r w2 ⟨rfl,hb2⟩;obtain ⟨_,_,_,_,hA2,_⟩:=wz w hb2;obtain ⟨_,_⟩:=zf hb2 (w.heap.size+1);clear hb2)
   | (go_at_call 31;refine (c1 _).mono ?_;rintro r w1 ⟨rfl,hb1⟩;obtain ⟨_,_,_,_,hA1,_⟩:=wz w hb1;obtain ⟨_,_⟩:=zf hb1 (w.heap.size+1);clear hb1)
   | (have:=hA3;go_at_call 74;refine (c4 _).mono ?_;rintro r w4 ⟨rfl,hb4⟩;obtain ⟨_,_,_,_,hA4,_⟩:=wz w hb4;obtain ⟨_,_⟩:=zf hb4 (w.heap.size+1);clear hb4)
   | (go_at_call 74;refine (c3 _).mono ?_;rintro r w3 ⟨rfl,hb3⟩;obtain ⟨_,_,_,_,hA3,_⟩:=wz w hb3;obtain ⟨_,_⟩:=zf hb3 (w.heap.size+1);clear hb3))
  go_ret
  exact ⟨by first|rfl|simp,bgo⟩
theorem sz_meet (L U L' U' R:Int)(h:¬ U<=L')(h':¬ U'<=L)
  (c1:∀ W,CB 31 #[OV c s g x k b] W (.bool false))
  (c2:∀ W,CB 31 #[OV c' s' g' x' k' b'] W (.bool false))
  (c3:∀ W,CB 74 #[OV c s g x k b] W (.tuple #[.int .i64 L,.int .i64 U]))
  (c4:∀ W,CB 74 #[OV c' s' g' x' k' b'] W (.tuple #[.int .i64 L',.int .i64 U']))
  (c5:∀ W,CB 75 #[OV c s g x k b,OV c' s' g' x' k' b'] W (.int .i64 R)) :
  CB 33 #[OV c s g x k b,OV c' s' g' x' k' b'] w (.int .i64 R):=by
 have hsm:=cell_set_map
 go_enter Tryz.func33,Tryz.ntmps33
 go_wp2_with (first
  | (have:=hA1;go_at_call 31;refine (c2 _).mono ?_;rintro r w2 ⟨rfl,hb2⟩;obtain ⟨_,_,_,_,hA2,_⟩:=wz w hb2;obtain ⟨_,_⟩:=zf hb2 (w.heap.size+1);clear hb2)
  | (go_at_call 31;refine (c1 _).mono ?_;rintro r w1 ⟨rfl,hb1⟩;obtain ⟨_,_,_,_,hA1,_⟩:=wz w hb1;obtain ⟨_,_⟩:=zf hb1 (w.heap.size+1);clear hb1)
  | (have:=hA3;go_at_call 74;refine (c4 _).mono ?_;rintro r w4 ⟨rfl,hb4⟩;obtain ⟨_,_,_,_,hA4,_⟩:=wz w hb4;obtain ⟨_,_⟩:=zf hb4 (w.heap.size+1);clear hb4)
  | (go_at_call 74;refine (c3 _).mono ?_;rintro r w3 ⟨rfl,hb3⟩;obtain ⟨_,_,_,_,hA3,_⟩:=wz w hb3;obtain ⟨_,_⟩:=zf hb3 (w.heap.size+1);clear hb3)
  | (go_at_call 75;refine (c5 _).mono ?_;rintro r w5 ⟨rfl,hb5⟩;obtain ⟨_,_,_,_,hA5,_⟩:=wz w hb5;obtain ⟨_,_⟩:=zf hb5 (w.heap.size+1);clear hb5))
 go_ret
 exact ⟨by first|rfl|simp,bgo⟩
end
theorem orc_v {b:Int}{X:Nat}(hX:X=2∨X=10)(hb:b=(X:Int))(c x:Int)(s g:Bool)(k:Nat)(hk:k<2^256)(hx:-20000<=x/\x<=20000)(hx10:X=10->-10000<=x/\x<=10000)(w:World):CB 74 #[OV c s g x k b] w (.tuple #[.int .i64 (rcL X x k),.int .i64 (rcU X x k)]):=by
 subst hb
 rcases hX with rfl|rfl
 ·exact reach_2 c x s g k hk w hx
 ·exact reach_10 c x s g k hk w (hx10 rfl)
theorem osz_v {X Y:Nat}(hX:X=2∨X=10)(hY:Y=2∨Y=10){c x b:Int}{s g:Bool}{k:Nat}{c' x' b':Int}{s' g':Bool}{k':Nat}(hb:b=(X:Int))(hb':b'=(Y:Int))(hc:c=1∨c=2)(hc':c'=1∨c'=2)(hk:k<2^256)(hk':k'<2^256)
  (hx:-20000<=x/\x<=20000) (hx':-20000<=x'/\x'<=20000) (hx10:X=10->-10000<=x/\x<=10000) (hy10:Y=10->-10000<=x'/\x'<=10000) (w:World) :
  CB 33 #[OV c s g x k b,OV c' s' g' x' k' b'] w (.int .i64 (szV c k X x c' k' Y x')):=by
 unfold szV
 by_cases h2:c=2∨c'=2
 ·rw [if_pos h2]
  refine sz_inf c x b s g k c' x' b' s' g' k' w ?_
  rcases hc with rfl|rfl
  ·rcases h2 with h|rfl
   ·omega
   ·exact Or.inr ⟨rfl,rfl⟩
  ·exact Or.inl rfl
 ·rw [if_neg h2]
  obtain rfl:c=1:=by omega
  obtain rfl:c'=1:=by omega
  have c1:=fun W=>ont_v 1 x b s g k hk W
  have c2:=fun W=>ont_v 1 x' b' s' g' k' hk' W
  have e1:decide ((1:Int)=1/\k=0)=decide (k=0):=by simp
  have e2:decide ((1:Int)=1/\k'=0)=decide (k'=0):=by simp
  rw [e1] at c1
  rw [e2] at c2
  by_cases h0:k=0∨k'=0
  ·rw [if_pos h0]
   refine sz_nought 1 x b s g k hk 1 x' b' s' g' k' hk' w rfl rfl _ _ ?_ c1 c2 _ (fun W v v' hv hv'=>ncmp_v (by decide) (by decide) hv hv')
   by_cases hk0:k=0
   ·exact Or.inl (decide_eq_true hk0)
   ·exact Or.inr ⟨decide_eq_false hk0,decide_eq_true (by omega)⟩
  ·rw [if_neg h0]
   have hk0:k≠0:=fun h=>h0 (Or.inl h)
   have hk0':k'≠0:=fun h=>h0 (Or.inr h)
   rw [decide_eq_false hk0] at c1
   rw [decide_eq_false hk0'] at c2
   have c3:=fun W=>orc_v hX hb 1 x s g k hk hx hx10 W
   have c4:=fun W=>orc_v hY hb' 1 x' s' g' k' hk' hx' hy10 W
   by_cases hf:rcU X x k<=rcL Y x' k'
   ·have:=rc_far hX hY hk0 hk0' hf
    rw [show sgn ((k*X^x.toNat*(1*Y^(-x').toNat):Nat):Int) ((k'*Y^x'.toNat*(1*X^(-x).toNat):Nat):Int)=-1 by unfold sgn;rw [if_pos (by omega)]]
    exact sz_far 1 x b s g k hk 1 x' b' s' g' k' hk' w rfl rfl _ _ _ _ _ (Or.inl ⟨hf,rfl⟩) c1 c2 c3 c4
   ·by_cases hf':rcU Y x' k'<=rcL X x k
    ·have:=rc_far hY hX hk0' hk0 hf'
     rw [show sgn ((k*X^x.toNat*(1*Y^(-x').toNat):Nat):Int) ((k'*Y^x'.toNat*(1*X^(-x).toNat):Nat):Int)=1 by unfold sgn;rw [if_neg (by omega),if_pos (by omega)]]
     exact sz_far 1 x b s g k hk 1 x' b' s' g' k' hk' w rfl rfl _ _ _ _ _ (Or.inr ⟨hf,hf',rfl⟩) c1 c2 c3 c4
    ·exact sz_meet 1 x b s g k hk 1 x' b' s' g' k' hk' w rfl rfl _ _ _ _ _ hf hf' c1 c2 c3 c4 (fun W=>onr_v hX hY hb hb' hk hk' hx hx' (rc_meet hX hY hk hk' hx hx' hx10 hy10 hf hf') W)
end
end Go.Proofs.YtgknbdehlmlipaaGreatDoor
