/-
  Texts that the proof leans on.
-/
import Derived.Test.YtjfeaiaafbaobaaGreatDoorJ37
import Derived.Test.YtjfeaiaafbaobaaGreatDoorJ34
import Derived.Test.YtjfeaiaafbaobaaGreatDoorJ49
import Derived.Test.YtjfeaiaafbaobaaGreatDoorJ40
import Derived.Test.YtjfeaiaafbaobaaGreatDoorJ14
import Derived.Test.YtjfeaiaafbaobaaGreatDoorJ35
import Derived.Test.YtjfeaiaafbaobaaGreatDoorJ19
import Derived.Test.YtjfeaiaafbaobaaGreatDoorJ28
import Derived.Test.YtjfeaiaafbaobaaGreatDoorJ33
import Derived.Test.YtjfeaiaafbaobaaGreatDoorJ12
import Derived.Test.YtjfeaiaafbaobaaGreatDoorJ1
import Derived.Test.YtjfeaiaafbaobaaGreatDoorJ50
import Derived.Test.YtjfeaiaafbaobaaGreatDoorJ45
import Derived.Test.YtjfeaiaafbaobaaGreatDoorJ48
import Derived.Test.YtjfeaiaafbaobaaGreatDoorJ46
import Derived.Test.YtjfeaiaafbaobaaGreatDoorJ17
import Derived.Test.YtjfeaiaafbaobaaGreatDoorJ20
import Derived.Test.YtjfeaiaafbaobaaGreatDoorJ21
import Derived.Test.YtjfeaiaafbaobaaGreatDoorJ26
import Derived.Test.YtjfeaiaafbaobaaGreatDoorJ3
import Derived.Test.YtjfeaiaafbaobaaGreatDoorJ10
import Derived.Test.YtjfeaiaafbaobaaGreatDoorJ8
import Derived.Laws.BytesArg
import Derived.Test.YtjfeaiaafbaobaaGreatDoorJ36
import Derived.Test.YtjfeaiaafbaobaaGreatDoorJ6
import Derived.Shelf.SlicesE.Reverse
import Derived.Test.YtjfeaiaafbaobaaGreatDoorJ47
import Derived.Deep.MidRow
import Derived.RegionTactic
import Derived.ChangeAlike
import Derived.BigRegion
import Derived.Laws.Strings2
import Derived.Test.YtjfeaiaafbaobaaGreatDoorJ27
import Derived.Test.YtjfeaiaafbaobaaGreatDoorJ31
import Derived.Test.YtjfeaiaafbaobaaGreatDoorJ32
import Derived.Test.YtjfeaiaafbaobaaGreatDoorJ38
import Derived.Test.YtjfeaiaafbaobaaGreatDoorJ39
import Derived.Test.YtjfeaiaafbaobaaGreatDoorJ42
import Derived.Test.YtjfeaiaafbaobaaGreatDoorJ30
import Derived.Test.YtjfeaiaafbaobaaGreatDoorJ43
set_option linter.unusedVariables false
set_option linter.unusedSectionVars false
set_option linter.unusedSimpArgs false
set_option maxHeartbeats 8000000
set_option maxRecDepth 20000
namespace Go.Proofs.YtjfeaiaafbaobaaGreatDoor
open Go.RowKit
theorem tnE_find {N D:Nat}(lo:Int)(h:tnG N D lo):∀ k:Nat,¬ tnG N D (lo+k)->∃ E,TnE N D E
 | 0,h'=>absurd (by simpa using h) h'
 | k+1,h'=>by
  by_cases hk:tnG N D (lo+k)
  ·exact ⟨lo+k,hk,by rw [show lo+(k:Int)+1=lo+((k+1:Nat):Int) by omega];exact h'⟩
  ·exact tnE_find lo h k hk
theorem tnE_ex {N D:Nat}(hN:0<N)(hD:0<D):∃ E,TnE N D E:=by
 refine tnE_find (-(D:Int)) ?_ (N+D) ?_
 ·unfold tnG
  rw [show (-(D:Int)).toNat=0 by omega,Int.neg_neg,Int.toNat_natCast,Nat.pow_zero,Nat.mul_one]
  have h1:D<10^D:=Nat.lt_pow_self (by decide)
  exact Nat.le_trans (Nat.le_of_lt h1) (Nat.le_mul_of_pos_left _ hN)
 ·rw [show -(D:Int)+((N+D:Nat):Int)=(N:Int) by omega]
  unfold tnG
  rw [show (-(N:Int)).toNat=0 by omega,Int.toNat_natCast,Nat.pow_zero,Nat.mul_one]
  have h1:N<10^N:=Nat.lt_pow_self (by decide)
  have h2:10^N<=D*10^N:=Nat.le_mul_of_pos_left _ hD
  omega
def clT (x:Int):Int:=min (max x (-20000)) 20000
theorem ok_m {f:DF}(h:f.ok):-10000<=f.m/\f.m<=10000/\-10000<=f.l/\f.l<=10000/\f.l<=f.m/\2<=f.j/\f.j<=11:=by
 unfold DF.m
 rcases h with ⟨h1,h2,h3,h4⟩|⟨h1,h2,h3,h4⟩|⟨h1,h2,h3,h4⟩<;>rw [h2,h3,h4]<;>decide
noncomputable def tnX (N D:Nat):Int:=open Classical in if h:∃ E,TnE N D E then Classical.choose h else 0
theorem tnX_is {N D:Nat}(hN:0<N)(hD:0<D):TnE N D (tnX N D):=by
 have h:=tnE_ex hN hD
 unfold tnX
 rw [dif_pos h]
 exact Classical.choose_spec h
def rqE (n d:Int)(N D:Nat):Int:=if decN n/\knB d/\D≠0 then (if 25600<bl N∨25600<bl D then 4 else 0) else 1
noncomputable def rqD (n d:Int)(s:Bool)(N D:Nat)(x y:Int):Dat :=
 if rqE n d N D=0 then (if N=0 then ⟨1,s,false,min (max y (fD n).l) (fD n).m,0⟩ else dkD (fD n) d s (N*10^(clT x).toNat) (D*10^(-(clT x)).toNat) (tnX (N*10^(clT x).toNat) (D*10^(-(clT x)).toNat)) y) else ⟨0,false,false,0,0⟩
noncomputable def rqF (n d:Int)(s:Bool)(N D:Nat)(x:Int):Int :=
 if rqE n d N D=0 then (if N=0 then 0 else dkF (fD n) d s (N*10^(clT x).toNat) (D*10^(-(clT x)).toNat) (tnX (N*10^(clT x).toNat) (D*10^(-(clT x)).toNat))) else 0
structure VC (n:Int) (B:Nat):Prop where
 cO:∀ W,CB 14 #[.int .i64 n] W (.tuple #[IDec n (nameN n) (((fD n).t+((fD n).w+6):Nat):Int) (3*((fD n).j:Int)+1) (expN n) (fD n).l ((fD n).l+3*2^(fD n).w-1) (3*((fD n).j:Int)) (fD n).dn,.int .i64 0])
 cS:∀ W,CB 39 #[IDec n (nameN n) (((fD n).t+((fD n).w+6):Nat):Int) (3*((fD n).j:Int)+1) (expN n) (fD n).l ((fD n).l+3*2^(fD n).w-1) (3*((fD n).j:Int)) (fD n).dn] W (.tuple #[.int .i64 (((fD n).w:Int)+5),.int .i64 ((fD n).t:Int),.int .i64 ((fD n).j:Int)])
 cF1:∀ W,CE 46 #[A4 B,.int .i64 ((fD n).t:Int),.int .i64 (((fD n).w:Int)+5)] W (NT 19 (vG (fD n) B))
 cF2:∀ W,CE 46 #[A4 B,.int .i64 0,.int .i64 ((fD n).t:Int)] W (NT 19 (vR (fD n) B))
 cF3:∀ W,CE 46 #[A4 B,.int .i64 (((fD n).t:Int)+(((fD n).w:Int)+5)),.int .i64 1] W (NT 19 (B/2^((fD n).t+((fD n).w+5))%2))
 cM1:∀ W v,NT 19 (vG (fD n) B) v W->CQ 44 #[v] W (.int .i64 (vG (fD n) B:Int))
 cM3:∀ W v,NT 19 (B/2^((fD n).t+((fD n).w+5))%2) v W->CQ 44 #[v] W (.int .i64 ((B/2^((fD n).t+((fD n).w+5))%2:Nat):Int))
 cB2:∀ W v,NT 19 (vR (fD n) B) v W->CB 15 #[v] W (A4 (vR (fD n) B))
 hAb:(vG (fD n) B:Int)<=200000
 hV:(vG (fD n) B:Int)/2^(fD n).w=((vV (fD n).w (vG (fD n) B):Nat):Int)
 hV1:vV (fD n).w (vG (fD n) B)<=31
 hsg:(((B/2^((fD n).t+((fD n).w+5))%2:Nat):Int)==1)=vS (fD n) B
theorem g_lim {f:DF}(h:f.ok)(B:Nat):vG f B<131072:=by
 have:=vG_lt f B
 rcases h with ⟨h1,h2,h3,h4⟩|⟨h1,h2,h3,h4⟩|⟨h1,h2,h3,h4⟩<;>rw [h2] at this<;>simp only [Nat.reducePow,Nat.reduceAdd] at this<;>omega
theorem vc_of {n:Int}(h:decN n)(B:Nat)(hB:B<2^256):VC n B:=by
 have ho:=fD_ok n
 obtain ⟨w6,w12,t20,t110,j2,j11,t64,l0,l1,H0,H1⟩:=ok_bounds ho
 have hg:=g_lim ho B
 refine ⟨fun W=>rof_dec h W,fun W=>dec_shape h _ _ _ _ _ _ W,fun W=>?_,fun W=>?_,fun W=>?_,fun W v hv=>?_,fun W v hv=>?_,fun W v hv=>bits_nv hv.nv,by omega,?_,?_,?_⟩
 ·have:=field_any B (fD n).t ((fD n).w+5) W hB (by omega) (by omega)
  rw [show (((fD n).w+5:Nat):Int)=((fD n).w:Int)+5 by omega] at this
  exact this
 ·have:=field_any B 0 (fD n).t W hB (by decide) (by omega)
  rw [Nat.pow_zero,Nat.div_one] at this
  exact this
 ·have:=field_any B ((fD n).t+((fD n).w+5)) 1 W hB (by omega) (by decide)
  rw [show (((fD n).t+((fD n).w+5):Nat):Int)=((fD n).t:Int)+(((fD n).w:Int)+5) by omega,Nat.pow_one] at this
  exact this
 ·exact (number_wide hv.nv (by decide) (by omega)).mono fun r w' ⟨e1,e2⟩=>⟨e1,e2.symm⟩
 ·exact (number_wide hv.nv (by decide) (by omega)).mono fun r w' ⟨e1,e2⟩=>⟨e1,e2.symm⟩
 ·unfold vV
  rw [← powCast,Int.natCast_ediv]
 ·have:=vG_lt (fD n) B
  rw [Nat.pow_add] at this
  unfold vV
  have:vG (fD n) B/2^(fD n).w<32:=by rw [Nat.div_lt_iff_lt_mul (Nat.two_pow_pos _),Nat.mul_comm];exact this
  omega
 ·unfold vS
  rw [Bool.eq_iff_iff]
  simp only [beq_iff_eq,decide_eq_true_eq]
  omega
theorem cU_of {n:Int}(B:Nat):∀ W,CB 81 #[A4 (vR (fD n) B),.int .i64 ((fD n).j:Int)] W (.tuple #[A4 (dlU (fD n).j (vR (fD n) B)),.int .i64 0]):=fun W=>by
 have ho:=fD_ok n
 obtain ⟨w6,w12,t20,t110,j2,j11,t64,l0,l1,H0,H1⟩:=ok_bounds ho
 have hr:=vR_lt (fD n) B
 have p2:=p_200 (a:=(fD n).t) (by omega)
 have p3:(2:Nat)^220<2^256:=by decide
 have:=rupk_any (vR (fD n) B) ((fD n).j:Int) W (by omega)
 have c1:(0:Int)<=((fD n).j:Int)/\((fD n).j:Int)<=11:=by omega
 rw [ho.pt] at hr
 unfold dUv dUe at this
 rw [if_pos c1,if_pos c1,Int.toNat_natCast,if_pos hr,if_pos hr] at this
 exact this
theorem vmean_s {n:Int}(h:decN n)(B:Nat)(w:World)(hB:B<2^256)(h30:vV (fD n).w (vG (fD n) B)=30∨vV (fD n).w (vG (fD n) B)=31) :
  Calls Tryz.prog 49 #[.int .i64 n,A4 B] w fun r w'=>r=.returned (vM (fD n) B).v/\Below w.heap.size w w':=by
 have ho:=fD_ok n
 obtain ⟨w6,w12,t20,t110,j2,j11,t64,l0,l1,H0,H1⟩:=ok_bounds ho
 have C:=vc_of h B hB
 have hg:=g_lim ho B
 have hr:=vR_lt (fD n) B
 have p2:=p_200 (a:=(fD n).t) (by omega)
 have p3:(2:Nat)^220<2^256:=by decide
 unfold vM vD
 by_cases e30:vV (fD n).w (vG (fD n) B)=30
 ·rw [if_pos e30]
  have:=vmn_i n _ _ _ _ _ _ _ _ _ _ B _ _ _ _ _ (fD n).w w (by omega) (by omega) (by omega) (by omega) (by omega) (by omega) C.hAb C.cF1 C.cF2 C.cF3 C.cM1 C.cM3 C.cB2 (by omega) w12 C.hV (by omega) (by have:=C.hV1;omega) C.hsg _ C.cO C.cS (by rw [e30];rfl)
  rw [show (Dat.mk 2 (vS (fD n) B) false 0 0).v=.agg #[.int .i64 2,.bool (vS (fD n) B),.bool false,.int .i64 0,.int .u64 0,.int .u64 0,.int .u64 0,.int .u64 0] by unfold Dat.v DV;simp only [W4_zero]]
  exact this
 ·have e31:vV (fD n).w (vG (fD n) B)=31:=by omega
  rw [if_neg e30,if_pos e31]
  have hgg:(bits .and .u64 ((vG (fD n) B:Int)/2^((fD n).w-1)) 1==1)=decide (vG (fD n) B/2^((fD n).w-1)%2=1):=by
   have hle:vG (fD n) B/2^((fD n).w-1)<=vG (fD n) B:=Nat.div_le_self _ _
   have:=and_lay (vG (fD n) B/2^((fD n).w-1)) 1 (by decide) (by omega)
   rw [Int.natCast_ediv,powCast] at this
   rw [show (((2^1:Nat):Int)-1)=1 by decide] at this
   rw [this,Nat.pow_one,Bool.eq_iff_iff]
   simp only [beq_iff_eq,decide_eq_true_eq]
   omega
  have b30:(((vV (fD n).w (vG (fD n) B):Nat):Int)==30)=false:=by rw [e31];rfl
  have b31:(((vV (fD n).w (vG (fD n) B):Nat):Int)==31)=true:=by rw [e31];rfl
  have cO:=C.cO
  have cS:=C.cS
  cases hdn:(fD n).dn
  ·rw [hdn] at cO cS
   have eT:vT (fD n) (vR (fD n) B)=vR (fD n) B:=by unfold vT;rw [hdn];rfl
   rw [eT]
   have cW:=fun W=>rbelowt (vR (fD n) B) (3*(fD n).j) W (by omega) (by omega)
   rw [show ((3*(fD n).j:Nat):Int)=3*((fD n).j:Int) by omega] at cW
   by_cases hlt:vR (fD n) B<10^(3*(fD n).j)
   ·rw [decide_eq_true hlt] at cW
    rw [if_pos hlt]
    exact vmn_nfy n _ _ _ _ _ _ _ _ _ _ B _ _ _ _ _ (fD n).w w (by omega) (by omega) (by omega) (by omega) (by omega) (by omega) C.hAb C.cF1 C.cF2 C.cF3 C.cM1 C.cM3 C.cB2 (by omega) w12 C.hV (by omega) (by have:=C.hV1;omega) C.hsg ((fD n).w-1) _ cO cS b30 b31 (by omega) (by omega) hgg cW
   ·rw [decide_eq_false hlt] at cW
    rw [if_neg hlt]
    have:=vmn_nfn n _ _ _ _ _ _ _ _ _ _ B _ _ _ _ _ (fD n).w w (by omega) (by omega) (by omega) (by omega) (by omega) (by omega) C.hAb C.cF1 C.cF2 C.cF3 C.cM1 C.cM3 C.cB2 (by omega) w12 C.hV (by omega) (by have:=C.hV1;omega) C.hsg ((fD n).w-1) _ cO cS b30 b31 (by omega) (by omega) hgg cW
    rw [show (Dat.mk 3 (vS (fD n) B) (decide (vG (fD n) B/2^((fD n).w-1)%2=1)) 0 0).v=.agg #[.int .i64 3,.bool (vS (fD n) B),.bool (decide (vG (fD n) B/2^((fD n).w-1)%2=1)),.int .i64 0,.int .u64 0,.int .u64 0,.int .u64 0,.int .u64 0] by unfold Dat.v DV;simp only [W4_zero]]
    exact this
  ·rw [hdn] at cO cS
   have eT:vT (fD n) (vR (fD n) B)=dlU (fD n).j (vR (fD n) B):=by unfold vT;rw [hdn];rfl
   have hlt:dlU (fD n).j (vR (fD n) B)<10^(3*(fD n).j):=by rw [ten3];exact dlU_lt _ _
   rw [eT,if_pos hlt]
   have hU:=dlU_256 (fD n).j (vR (fD n) B) j11
   have cW:=fun W=>rbelowt (dlU (fD n).j (vR (fD n) B)) (3*(fD n).j) W hU (by omega)
   rw [show ((3*(fD n).j:Nat):Int)=3*((fD n).j:Int) by omega,decide_eq_true hlt] at cW
   exact vmn_nty n _ _ _ _ _ _ _ _ _ _ B _ _ _ _ _ (fD n).w w (by omega) (by omega) (by omega) (by omega) (by omega) (by omega) C.hAb C.cF1 C.cF2 C.cF3 C.cM1 C.cM3 C.cB2 (by omega) w12 C.hV (by omega) (by have:=C.hV1;omega) C.hsg ((fD n).w-1) _ _ cO cS b30 b31 (by omega) (by omega) hgg (cU_of B) cW
theorem sgn_below {A B:Nat}(h:A<B):¬ (0:Int)<=sgn (A:Int) (B:Int):=by
 rcases sgn_ways (A:Int) (B:Int) with ⟨a,e⟩|⟨a,e⟩|⟨a,e⟩<;>omega
theorem sgn_above {A B:Nat}(h:¬ A<B):(0:Int)<=sgn (A:Int) (B:Int):=by
 rcases sgn_ways (A:Int) (B:Int) with ⟨a,e⟩|⟨a,e⟩|⟨a,e⟩<;>omega
theorem vmean_d {n:Int}(h:decN n)(hdn:(fD n).dn=true)(B:Nat)(w:World)(hB:B<2^256)(h30:vV (fD n).w (vG (fD n) B)≠30)(h31:vV (fD n).w (vG (fD n) B)≠31) :
  Calls Tryz.prog 49 #[.int .i64 n,A4 B] w fun r w'=>r=.returned (vM (fD n) B).v/\Below w.heap.size w w':=by
 have ho:=fD_ok n
 obtain ⟨w6,w12,t20,t110,j2,j11,t64,l0,l1,H0,H1⟩:=ok_bounds ho
 have Cc:=vc_of h B hB
 have hg:=g_lim ho B
 have hr:=vR_lt (fD n) B
 have p2:=p_200 (a:=(fD n).t) (by omega)
 have p3:(2:Nat)^220<2^256:=by decide
 have cO:=Cc.cO
 have cS:=Cc.cS
 rw [hdn] at cO cS
 have b30:(((vV (fD n).w (vG (fD n) B):Nat):Int)==30)=false:=by rw [beq_eq_false_iff_ne];omega
 have b31:(((vV (fD n).w (vG (fD n) B):Nat):Int)==31)=false:=by rw [beq_eq_false_iff_ne];omega
 have hH:(2:Int)^(fD n).w=((2^(fD n).w:Nat):Int):=(powCast _).symm
 have hV1:=Cc.hV1
 have hVe:=Cc.hV
 have hvv:vV (fD n).w (vG (fD n) B)=vG (fD n) B/2^(fD n).w:=rfl
 have hlow:vG (fD n) B%2^(fD n).w<2^(fD n).w:=Nat.mod_lt _ (Nat.two_pow_pos _)
 have cQ:∀ W,CE 17 #[.int .u64 10,.int .i64 (3*((fD n).j:Int)+1)] W (NV 50000 (10^(3*(fD n).j+1))):=fun W=>by
  have:=rpowt_nv (3*(fD n).j+1) W (by omega)
  rw [show ((3*(fD n).j+1:Nat):Int)=3*((fD n).j:Int)+1 by omega] at this
  exact this
 have hU:=dlU_256 (fD n).j (vR (fD n) B) j11
 have hUt:dlU (fD n).j (vR (fD n) B)<10^(3*(fD n).j):=by rw [ten3];exact dlU_lt _ _
 have cU:=cU_of (n:=n) B
 have hL:=and_lay (vG (fD n) B) (fD n).w (by omega) (by omega)
 have cP:∀ W,CE 17 #[.int .u64 10,.int .i64 (3*((fD n).j:Int))] W (NV 50000 (10^(3*(fD n).j))):=fun W=>by
  have:=rpowt_nv (3*(fD n).j) W (by omega)
  rw [show ((3*(fD n).j:Nat):Int)=3*((fD n).j:Int) by omega] at this
  exact this
 have eM:vM (fD n) B=⟨1,vS (fD n) B,false,(vF true (fD n).w (vG (fD n) B):Int)+(fD n).l,vL true (fD n).w (vG (fD n) B)*10^(3*(fD n).j)+dlU (fD n).j (vR (fD n) B)⟩:=by
  have hq:vQ (fD n)=10^(3*(fD n).j):=by unfold vQ;rw [hdn];rfl
  have ht:vT (fD n) (vR (fD n) B)=dlU (fD n).j (vR (fD n) B):=by unfold vT;rw [hdn];rfl
  unfold vM vD
  rw [if_neg h30,if_neg h31,hdn,hq,ht,if_pos]
  have h9:vL true (fD n).w (vG (fD n) B)<=9:=by unfold vL;simp only [if_true];split<;>omega
  have:=Nat.mul_le_mul_right (10^(3*(fD n).j)) h9
  rw [Nat.pow_succ]
  omega
 have hClt:vL true (fD n).w (vG (fD n) B)*10^(3*(fD n).j)+dlU (fD n).j (vR (fD n) B)<10^(3*(fD n).j+1):=by
  have h9:vL true (fD n).w (vG (fD n) B)<=9:=by unfold vL;simp only [if_true];split<;>omega
  have:=Nat.mul_le_mul_right (10^(3*(fD n).j)) h9
  rw [Nat.pow_succ]
  omega
 rw [eM]
 generalize vV (fD n).w (vG (fD n) B)=V at *
 have hF0:∀ q,q<=2->q*2^(fD n).w<=2*4096:=fun q hq=>Nat.mul_le_mul hq H1
 by_cases h24:V<24
 ·have eF:vF true (fD n).w (vG (fD n) B)=V/8*2^(fD n).w+vG (fD n) B%2^(fD n).w:=by unfold vF vV;simp only [if_true];rw [← hvv,if_pos h24]
  have eL:vL true (fD n).w (vG (fD n) B)=V%8:=by unfold vL vV;simp only [if_true];rw [← hvv,if_pos h24]
  rw [eF,eL]
  rw [eL] at hClt
  have q8:=hF0 (V/8) (by omega)
  have o1:=or_lay (V/8) (vG (fD n) B%2^(fD n).w) (fD n).w hlow (by omega)
  rw [Int.natCast_mul] at o1
  have o2:=and_lay V 3 (by decide) (by omega)
  rw [show (((2^3:Nat):Int)-1)=7 by decide,show V%2^3=V%8 from rfl] at o2
  exact vmn_ds n _ _ _ _ _ _ _ _ _ _ B _ _ _ _ _ (fD n).w w (by omega) (by omega) (by omega) (by omega) (by omega) (by omega) Cc.hAb Cc.cF1 Cc.cF2 Cc.cF3 Cc.cM1 Cc.cM3 Cc.cB2 (by omega) w12 hVe (by omega) (by omega) Cc.hsg _ _ _ _ hH (by omega) (by omega) (by omega) (by omega) (by omega) (by omega) (by omega) (by omega) ((V/8:Nat):Int) 0 0 _ (dlU (fD n).j (vR (fD n) B)) (10^(3*(fD n).j)) (V%8*10^(3*(fD n).j)) (V%8*10^(3*(fD n).j)+dlU (fD n).j (vR (fD n) B)) (10^(3*(fD n).j+1)) (V%8) cO cS b30 b31 (by omega) cU hU hL (by rw [← Int.natCast_mul];omega) (by rw [← Int.natCast_mul];omega) o1 (by omega) o2 cP (fun W v v' h1 h2=>(rtimes_nt (by decide) (by decide) h1 h2).mono fun r w' ⟨v,e1,e2,e3⟩=>⟨v,e1,e2.more (by decide),e3⟩) (fun W v v' h1 h2=>(radd_nv (by decide) (by decide) h1.nv h2).mono fun r w' ⟨v,e1,e2,e3⟩=>⟨v,e1,e2.more (by decide),e3⟩) rfl cQ (fun W v v' h1 h2=>rcmp_nv (by decide) (by decide) h1 h2) (sgn_below hClt) (fun W v hv=>bits_nv hv)
 ·have eF:vF true (fD n).w (vG (fD n) B)=V/2%4*2^(fD n).w+vG (fD n) B%2^(fD n).w:=by unfold vF vV;simp only [if_true];rw [← hvv,if_neg h24]
  have eL:vL true (fD n).w (vG (fD n) B)=8+V%2:=by unfold vL vV;simp only [if_true];rw [← hvv,if_neg h24]
  rw [eF,eL]
  rw [eL] at hClt
  have q8:=hF0 (V/2%4) (by omega)
  have o1:=or_lay (V/2%4) (vG (fD n) B%2^(fD n).w) (fD n).w hlow (by omega)
  rw [Int.natCast_mul] at o1
  have o2:=and_lay (V/2) 2 (by decide) (by omega)
  rw [show (((2^2:Nat):Int)-1)=3 by decide,show V/2%2^2=V/2%4 from rfl,show ((V/2:Nat):Int)=(V:Int)/2 by omega] at o2
  have o3:=and_lay V 1 (by decide) (by omega)
  rw [show (((2^1:Nat):Int)-1)=1 by decide,show V%2^1=V%2 from rfl] at o3
  exact vmn_db n _ _ _ _ _ _ _ _ _ _ B _ _ _ _ _ (fD n).w w (by omega) (by omega) (by omega) (by omega) (by omega) (by omega) Cc.hAb Cc.cF1 Cc.cF2 Cc.cF3 Cc.cM1 Cc.cM3 Cc.cB2 (by omega) w12 hVe (by omega) (by omega) Cc.hsg _ _ _ ((8+V%2:Nat):Int) hH (by omega) (by omega) (by omega) (by omega) (by omega) (by omega) (by omega) (by omega) ((V/2%4:Nat):Int) ((V%2:Nat):Int) 0 _ (dlU (fD n).j (vR (fD n) B)) (10^(3*(fD n).j)) ((8+V%2)*10^(3*(fD n).j)) ((8+V%2)*10^(3*(fD n).j)+dlU (fD n).j (vR (fD n) B)) (10^(3*(fD n).j+1)) (8+V%2) cO cS b30 b31 (by omega) cU hU hL (by rw [← Int.natCast_mul];omega) (by rw [← Int.natCast_mul];omega) o1 o2 o3 (by omega) (by omega) (by omega) cP (fun W v v' h1 h2=>(rtimes_nt (by decide) (by decide) h1 h2).mono fun r w' ⟨v,e1,e2,e3⟩=>⟨v,e1,e2.more (by decide),e3⟩) (fun W v v' h1 h2=>(radd_nv (by decide) (by decide) h1.nv h2).mono fun r w' ⟨v,e1,e2,e3⟩=>⟨v,e1,e2.more (by decide),e3⟩) rfl cQ (fun W v v' h1 h2=>rcmp_nv (by decide) (by decide) h1 h2) (sgn_below hClt) (fun W v hv=>bits_nv hv)
theorem vmean_p {n:Int}(h:decN n)(hdn:(fD n).dn=false)(B:Nat)(w:World)(hB:B<2^256)(h30:vV (fD n).w (vG (fD n) B)≠30)(h31:vV (fD n).w (vG (fD n) B)≠31) :
  Calls Tryz.prog 49 #[.int .i64 n,A4 B] w fun r w'=>r=.returned (vM (fD n) B).v/\Below w.heap.size w w':=by
 have ho:=fD_ok n
 obtain ⟨w6,w12,t20,t110,j2,j11,t64,l0,l1,H0,H1⟩:=ok_bounds ho
 have Cc:=vc_of h B hB
 have hg:=g_lim ho B
 have hr:=vR_lt (fD n) B
 have p2:=p_200 (a:=(fD n).t) (by omega)
 have p3:(2:Nat)^220<2^256:=by decide
 have cO:=Cc.cO
 have cS:=Cc.cS
 rw [hdn] at cO cS
 have b30:(((vV (fD n).w (vG (fD n) B):Nat):Int)==30)=false:=by rw [beq_eq_false_iff_ne];omega
 have b31:(((vV (fD n).w (vG (fD n) B):Nat):Int)==31)=false:=by rw [beq_eq_false_iff_ne];omega
 have hH:(2:Int)^(fD n).w=((2^(fD n).w:Nat):Int):=(powCast _).symm
 have hV1:=Cc.hV1
 have hVe:=Cc.hV
 have hvv:vV (fD n).w (vG (fD n) B)=vG (fD n) B/2^(fD n).w:=rfl
 have hlow:vG (fD n) B%2^(fD n).w<2^(fD n).w:=Nat.mod_lt _ (Nat.two_pow_pos _)
 have cQ:∀ W,CE 17 #[.int .u64 10,.int .i64 (3*((fD n).j:Int)+1)] W (NV 50000 (10^(3*(fD n).j+1))):=fun W=>by
  have:=rpowt_nv (3*(fD n).j+1) W (by omega)
  rw [show ((3*(fD n).j+1:Nat):Int)=3*((fD n).j:Int)+1 by omega] at this
  exact this
 have hU:vR (fD n) B<2^256:=by omega
 have hgl:=vG_lt (fD n) B
 have w5:2^((fD n).w+5)=32*2^(fD n).w:=by rw [Nat.pow_add,Nat.mul_comm]
 have w2:2^((fD n).w+2)=4*2^(fD n).w:=by rw [Nat.pow_add,Nat.mul_comm]
 have eM:vM (fD n) B=⟨1,vS (fD n) B,false,(vF false (fD n).w (vG (fD n) B):Int)+(fD n).l,if vL false (fD n).w (vG (fD n) B)*2^(fD n).t+vR (fD n) B<10^(3*(fD n).j+1) then vL false (fD n).w (vG (fD n) B)*2^(fD n).t+vR (fD n) B else 0⟩:=by
  have hq:vQ (fD n)=2^(fD n).t:=by unfold vQ;rw [hdn];rfl
  have ht:vT (fD n) (vR (fD n) B)=vR (fD n) B:=by unfold vT;rw [hdn];rfl
  unfold vM vD
  rw [if_neg h30,if_neg h31,hdn,hq,ht]
 rw [eM]
 have hDV:∀ x:Int,(Dat.mk 1 (vS (fD n) B) false x 0).v=.agg #[.int .i64 1,.bool (vS (fD n) B),.bool false,.int .i64 x,.int .u64 0,.int .u64 0,.int .u64 0,.int .u64 0]:=fun x=>by unfold Dat.v DV;simp only [W4_zero]
 generalize vV (fD n).w (vG (fD n) B)=V at *
 by_cases h24:V<24
 ·have eF:vF false (fD n).w (vG (fD n) B)=vG (fD n) B/8:=by unfold vF vV;simp only [Bool.false_eq_true,if_false];rw [← hvv,if_pos h24]
  have eL:vL false (fD n).w (vG (fD n) B)=vG (fD n) B%8:=by unfold vL vV;simp only [Bool.false_eq_true,if_false];rw [← hvv,if_pos h24]
  rw [eF,eL]
  have o2:=and_lay (vG (fD n) B) 3 (by decide) (by omega)
  rw [show (((2^3:Nat):Int)-1)=7 by decide,show vG (fD n) B%2^3=vG (fD n) B%8 from rfl] at o2
  have hF:(vG (fD n) B:Int)/8=((vG (fD n) B/8:Nat):Int):=by omega
  by_cases hlt:vG (fD n) B%8*2^(fD n).t+vR (fD n) B<10^(3*(fD n).j+1)
  ·rw [if_pos hlt]
   exact vmn_ps n _ _ _ _ _ _ _ _ _ _ B _ _ _ _ _ (fD n).w w (by omega) (by omega) (by omega) (by omega) (by omega) (by omega) Cc.hAb Cc.cF1 Cc.cF2 Cc.cF3 Cc.cM1 Cc.cM3 Cc.cB2 (by omega) w12 hVe (by omega) (by omega) Cc.hsg _ _ _ hH (by omega) (by omega) (by omega) (by omega) (by omega) (by omega) (by omega) (by omega) 0 0 0 _ 0 0 (vG (fD n) B%8*2^(fD n).t) _ (10^(3*(fD n).j+1)) (vG (fD n) B%8) cO cS b30 b31 (by omega) hF o2 hU (fun W v h1=>(rleft_nt (fD n).t (by decide) (by omega) h1).mono fun r w' ⟨v,e1,e2,e3⟩=>⟨v,e1,e2.more (by omega),e3⟩) (fun W v v' h1 h2=>(radd_nv (by decide) (by decide) h1.nv h2).mono fun r w' ⟨v,e1,e2,e3⟩=>⟨v,e1,e2.more (by decide),e3⟩) rfl cQ (fun W v v' h1 h2=>rcmp_nv (by decide) (by decide) h1 h2) (sgn_below hlt) (fun W v hv=>bits_nv hv)
  ·rw [if_neg hlt,hDV]
   exact vmn_pso n _ _ _ _ _ _ _ _ _ _ B _ _ _ _ _ (fD n).w w (by omega) (by omega) (by omega) (by omega) (by omega) (by omega) Cc.hAb Cc.cF1 Cc.cF2 Cc.cF3 Cc.cM1 Cc.cM3 Cc.cB2 (by omega) w12 hVe (by omega) (by omega) Cc.hsg _ _ _ hH (by omega) (by omega) (by omega) (by omega) (by omega) (by omega) (by omega) (by omega) 0 0 0 _ 0 0 (vG (fD n) B%8*2^(fD n).t) (vG (fD n) B%8*2^(fD n).t+vR (fD n) B) (10^(3*(fD n).j+1)) (vG (fD n) B%8) cO cS b30 b31 (by omega) hF o2 hU (fun W v h1=>(rleft_nt (fD n).t (by decide) (by omega) h1).mono fun r w' ⟨v,e1,e2,e3⟩=>⟨v,e1,e2.more (by omega),e3⟩) (fun W v v' h1 h2=>(radd_nv (by decide) (by decide) h1.nv h2).mono fun r w' ⟨v,e1,e2,e3⟩=>⟨v,e1,e2.more (by decide),e3⟩) rfl cQ (fun W v v' h1 h2=>rcmp_nv (by decide) (by decide) h1 h2) (sgn_above hlt) (fun W=>bits_none W)
 ·have eF:vF false (fD n).w (vG (fD n) B)=vG (fD n) B/2%2^((fD n).w+2):=by unfold vF vV;simp only [Bool.false_eq_true,if_false];rw [← hvv,if_neg h24]
  have eL:vL false (fD n).w (vG (fD n) B)=8+vG (fD n) B%2:=by unfold vL vV;simp only [Bool.false_eq_true,if_false];rw [← hvv,if_neg h24]
  rw [eF,eL]
  have hm:vG (fD n) B/2%2^((fD n).w+2)<2^((fD n).w+2):=Nat.mod_lt _ (Nat.two_pow_pos _)
  have hH4:(2:Int)^((fD n).w+2)=((2^((fD n).w+2):Nat):Int):=(powCast _).symm
  have o1:=and_lay (vG (fD n) B/2) ((fD n).w+2) (by omega) (by omega)
  rw [show ((vG (fD n) B/2:Nat):Int)=(vG (fD n) B:Int)/2 by omega] at o1
  have o3:=and_lay (vG (fD n) B) 1 (by decide) (by omega)
  rw [show (((2^1:Nat):Int)-1)=1 by decide,show vG (fD n) B%2^1=vG (fD n) B%2 from rfl] at o3
  by_cases hlt:(8+vG (fD n) B%2)*2^(fD n).t+vR (fD n) B<10^(3*(fD n).j+1)
  ·rw [if_pos hlt]
   exact vmn_pb n _ _ _ _ _ _ _ _ _ _ B _ _ _ _ _ (fD n).w w (by omega) (by omega) (by omega) (by omega) (by omega) (by omega) Cc.hAb Cc.cF1 Cc.cF2 Cc.cF3 Cc.cM1 Cc.cM3 Cc.cB2 (by omega) w12 hVe (by omega) (by omega) Cc.hsg _ _ ((8+vG (fD n) B%2:Nat):Int) hH (by omega) (by omega) (by omega) (by omega) (by omega) (by omega) (by omega) (by omega) 0 ((vG (fD n) B%2:Nat):Int) ((2^((fD n).w+2):Nat):Int) _ 0 0 ((8+vG (fD n) B%2)*2^(fD n).t) _ (10^(3*(fD n).j+1)) (8+vG (fD n) B%2) cO cS b30 b31 (by omega) hH4 (by omega) (by omega) o1 o3 (by omega) (by omega) (by omega) hU (fun W v h1=>(rleft_nt (fD n).t (by decide) (by omega) h1).mono fun r w' ⟨v,e1,e2,e3⟩=>⟨v,e1,e2.more (by omega),e3⟩) (fun W v v' h1 h2=>(radd_nv (by decide) (by decide) h1.nv h2).mono fun r w' ⟨v,e1,e2,e3⟩=>⟨v,e1,e2.more (by decide),e3⟩) rfl cQ (fun W v v' h1 h2=>rcmp_nv (by decide) (by decide) h1 h2) (sgn_below hlt) (fun W v hv=>bits_nv hv)
  ·rw [if_neg hlt,hDV]
   exact vmn_pbo n _ _ _ _ _ _ _ _ _ _ B _ _ _ _ _ (fD n).w w (by omega) (by omega) (by omega) (by omega) (by omega) (by omega) Cc.hAb Cc.cF1 Cc.cF2 Cc.cF3 Cc.cM1 Cc.cM3 Cc.cB2 (by omega) w12 hVe (by omega) (by omega) Cc.hsg _ _ ((8+vG (fD n) B%2:Nat):Int) hH (by omega) (by omega) (by omega) (by omega) (by omega) (by omega) (by omega) (by omega) 0 ((vG (fD n) B%2:Nat):Int) ((2^((fD n).w+2):Nat):Int) _ 0 0 ((8+vG (fD n) B%2)*2^(fD n).t) ((8+vG (fD n) B%2)*2^(fD n).t+vR (fD n) B) (10^(3*(fD n).j+1)) (8+vG (fD n) B%2) cO cS b30 b31 (by omega) hH4 (by omega) (by omega) o1 o3 (by omega) (by omega) (by omega) hU (fun W v h1=>(rleft_nt (fD n).t (by decide) (by omega) h1).mono fun r w' ⟨v,e1,e2,e3⟩=>⟨v,e1,e2.more (by omega),e3⟩) (fun W v v' h1 h2=>(radd_nv (by decide) (by decide) h1.nv h2).mono fun r w' ⟨v,e1,e2,e3⟩=>⟨v,e1,e2.more (by decide),e3⟩) rfl cQ (fun W v v' h1 h2=>rcmp_nv (by decide) (by decide) h1 h2) (sgn_above hlt) (fun W=>bits_none W)
theorem rmean14 {n:Int}(h:decN n)(B:Nat)(w:World)(hB:B<2^256) :
  Calls Tryz.prog 49 #[.int .i64 n,A4 B] w fun r w'=>r=.returned (vM (fD n) B).v/\Below w.heap.size w w':=by
 by_cases e:vV (fD n).w (vG (fD n) B)=30∨vV (fD n).w (vG (fD n) B)=31
 ·exact vmean_s h B w hB e
 ·cases hdn:(fD n).dn
  ·exact vmean_p h hdn B w hB (fun q=>e (Or.inl q)) (fun q=>e (Or.inr q))
  ·exact vmean_d h hdn B w hB (fun q=>e (Or.inl q)) (fun q=>e (Or.inr q))
section
def vUD (n:Int)(B:Nat):Dat:=if goodD n B then vM (fD n) B else ⟨0,false,false,0,0⟩
def vUC (n:Int)(B:Nat):Bool:=decide (goodD n B/\vP (fD n) (vM (fD n) B)=B)
def vUE (n:Int)(B:Nat):Int:=if goodD n B then 0 else 1
theorem vUD_256 (n:Int)(B:Nat):(vUD n B).k<2^256:=by
 unfold vUD
 split
 ·exact vM_256 (fD_ok n) B
 ·decide
theorem eq_words {X Y:Nat}(hX:X<2^256)(hY:Y<2^256):decide (W4 X 0=W4 Y 0/\W4 X 1=W4 Y 1/\W4 X 2=W4 Y 2/\W4 X 3=W4 Y 3)=decide (X=Y):=by
 refine decide_eq_decide.2 ⟨fun ⟨h0,h1,h2,h3⟩=>A4_inj hX hY fun i hi=>?_,fun h=>by rw [h];exact ⟨rfl,rfl,rfl,rfl⟩⟩
 have:i=0∨i=1∨i=2∨i=3:=by omega
 rcases this with rfl|rfl|rfl|rfl
 ·exact h0
 ·exact h1
 ·exact h2
 ·exact h3
attribute [local irreducible] W4
section
variable (n:Int)(B:Nat)(w:World)
theorem vun_n (c16:∀ W,CB 20 #[.int .i64 n,A4 B] W (.bool false)) :
  CB 23 #[.int .i64 n,A4 B] w (.tuple #[.agg #[.int .i64 0,.bool false,.bool false,.int .i64 0,.int .u64 0,.int .u64 0,.int .u64 0,.int .u64 0],.bool false,.int .i64 1]):=by
 have hsm:=cell_set_map
 go_enter Tryz.func23,Tryz.ntmps23
 go_wp2_with (go_at_call 20;refine (c16 _).mono ?_;rintro r w1 ⟨rfl,hb1⟩;obtain ⟨_,_,_,_,hA1,_⟩:=wz w hb1;obtain ⟨_,_⟩:=zf hb1 (w.heap.size+1);clear hb1)
 exact bodyPost_ret (by simp only [results,Tryz.results23];go_simp) rfl ⟨rfl,bgo⟩
theorem vun_y (c x:Int)(s g:Bool)(k P:Nat)(E:Int)(R:Bool)(hR:decide (W4 P 0=W4 B 0/\W4 P 1=W4 B 1/\W4 P 2=W4 B 2/\W4 P 3=W4 B 3)=R)
  (c16:∀ W,CB 20 #[.int .i64 n,A4 B] W (.bool true))
  (c17:∀ W,CB 49 #[.int .i64 n,A4 B] W (DV c s g x k))
  (c13:∀ W,CB 19 #[.int .i64 n,DV c s g x k] W (.tuple #[A4 P,.int .i64 E])) :
  CB 23 #[.int .i64 n,A4 B] w (.tuple #[DV c s g x k,.bool R,.int .i64 0]):=by
 have h24:=eq24 (W4 P 0) (W4 P 1) (W4 P 2) (W4 P 3) (W4 B 0) (W4 B 1) (W4 B 2) (W4 B 3)
 rw [hR] at h24
 clear hR
 have hsm:=cell_set_map
 unfold DV A4 at *
 go_enter Tryz.func23,Tryz.ntmps23
 go_wp2_with (first
  | (go_at_call 20;refine (c16 _).mono ?_;rintro r w1 ⟨rfl,hb1⟩;obtain ⟨_,_,_,_,hA1,_⟩:=wz w hb1;obtain ⟨_,_⟩:=zf hb1 (w.heap.size+1);clear hb1)
  | (go_at_call 49;refine (c17 _).mono ?_;rintro r w2 ⟨rfl,hb2⟩;obtain ⟨_,_,_,_,hA2,_⟩:=wz w hb2;obtain ⟨_,_⟩:=zf hb2 (w.heap.size+1);clear hb2)
  | (go_at_call 19;refine (c13 _).mono ?_;rintro r w3 ⟨rfl,hb3⟩;obtain ⟨_,_,_,_,hA3,_⟩:=wz w hb3;obtain ⟨_,_⟩:=zf hb3 (w.heap.size+1);obtain ⟨_,_⟩:=zf hb3 w2.heap.size;clear hb3))
 go_region_with (fail)
 all_goals go_wp2
 all_goals exact bodyPost_ret (by simp only [results,Tryz.results23];go_simp) rfl ⟨rfl,bgo⟩
end
theorem zero_v:(Dat.mk 0 false false 0 0).v=.agg #[.int .i64 0,.bool false,.bool false,.int .i64 0,.int .u64 0,.int .u64 0,.int .u64 0,.int .u64 0]:=by unfold Dat.v DV;simp only [W4_zero]
theorem vPV_of {n:Int}{B:Nat}(h:goodD n B):vPV n (vM (fD n) B)=vP (fD n) (vM (fD n) B)/\vPE n (vM (fD n) B)=0:=by
 have hi:=vM_is (fD_ok n) B
 unfold vPV vPE
 exact ⟨if_pos ⟨h.1,hi⟩,by rw [if_pos h.1,if_pos hi]⟩
theorem runp14 (n:Int)(B:Nat)(w:World)(hB:B<2^256) :
  CB 23 #[.int .i64 n,A4 B] w (.tuple #[(vUD n B).v,.bool (vUC n B),.int .i64 (vUE n B)]):=by
 have c16:=fun W=>rgood14 n B hB W
 unfold vUD vUC vUE
 by_cases h:goodD n B
 ·rw [if_pos h,if_pos h]
  rw [decide_eq_true h] at c16
  obtain ⟨e1,e2⟩:=vPV_of h
  have c13:=fun W=>rpk14 n (vM (fD n) B) W (vM_256 (fD_ok n) B)
  rw [e1] at c13
  refine vun_y n B w _ _ _ _ _ _ _ _ ?_ c16 (fun W=>rmean14 h.1 B W hB) c13
  rw [eq_words (vP_256 (fD_ok n) (vM_is (fD_ok n) B)) hB]
  exact decide_eq_decide.2 ⟨fun q=>⟨h,q⟩,fun q=>q.2⟩
 ·rw [if_neg h,if_neg h,decide_eq_false (fun q=>h q.1),zero_v]
  rw [decide_eq_false h] at c16
  exact vun_n n B w c16
end
section
theorem tnX_eq {N D:Nat}{E:Int}(hN:0<N)(hD:0<D)(h:TnE N D E):tnX N D=E:=(tnX_is hN hD).only h
theorem third:rqD 7 0 false 1 3 0 0=⟨1,false,false,-7,3333333⟩/\rqF 7 0 false 1 3 0=8/\rqE 7 0 1 3=0:=by
 have e0:rqE 7 0 1 3=0:=by
  have b1:bl 1<=2:=bl_le.2 (by decide)
  have b3:bl 3<=2:=bl_le.2 (by decide)
  unfold rqE
  rw [if_pos ⟨by unfold decN;omega,by unfold knB;omega,by decide⟩,if_neg (by omega)]
 have eX:tnX (1*10^(clT 0).toNat) (3*10^(-(clT 0)).toNat)=-1:=tnX_eq (by decide) (by decide) ⟨by decide,by decide⟩
 refine ⟨?_,?_,e0⟩
 ·unfold rqD
  rw [if_pos e0,if_neg (by decide),eX]
  have h1:(dkD (fD 7) 0 false (1*10^(clT 0).toNat) (3*10^(-(clT 0)).toNat) (-1) 0).c=1/\(dkD (fD 7) 0 false (1*10^(clT 0).toNat) (3*10^(-(clT 0)).toNat) (-1) 0).s=false/\(dkD (fD 7) 0 false (1*10^(clT 0).toNat) (3*10^(-(clT 0)).toNat) (-1) 0).g=false/\(dkD (fD 7) 0 false (1*10^(clT 0).toNat) (3*10^(-(clT 0)).toNat) (-1) 0).x=-7/\(dkD (fD 7) 0 false (1*10^(clT 0).toNat) (3*10^(-(clT 0)).toNat) (-1) 0).k=3333333:=by decide +kernel
  generalize dkD (fD 7) 0 false (1*10^(clT 0).toNat) (3*10^(-(clT 0)).toNat) (-1) 0=R at h1 ⊢
  obtain ⟨c,s,g,x,k⟩:=R
  simp only at h1
  obtain ⟨rfl,rfl,rfl,rfl,rfl⟩:=h1
  rfl
 ·unfold rqF
  rw [if_pos e0,if_neg (by decide),eX]
  decide +kernel
attribute [local irreducible] W4 Nt
end
def i6 (x:Int):Prop:=-9223372036854775808<=x/\x<=9223372036854775807
section
theorem dat_box {w0 w:World}{c x:Int}{s g:Bool}{k:Nat}{t:TypeId}(hk:k<2^256)
  (hb:Below (w0.alloc (.cells #[.int .i64 c,.bool s,.bool g,.int .i64 x,.int .u64 (W4 k 0),.int .u64 (W4 k 1),.int .u64 (W4 k 2),.int .u64 (W4 k 3)] t)).heap.size (w0.alloc (.cells #[.int .i64 c,.bool s,.bool g,.int .i64 x,.int .u64 (W4 k 0),.int .u64 (W4 k 1),.int .u64 (W4 k 2),.int .u64 (W4 k 3)] t)) w) :
  Nt 4 k (.slice (some ⟨w0.heap.size,4,none⟩) 4 4) w:=by
 have hs:w0.heap.size<(w0.alloc (.cells #[.int .i64 c,.bool s,.bool g,.int .i64 x,.int .u64 (W4 k 0),.int .u64 (W4 k 1),.int .u64 (W4 k 2),.int .u64 (W4 k 3)] t)).heap.size:=by simp
 refine ⟨_,4,4,lowW (W4 k) 4,rfl,Nat.le_refl _,⟨Nat.le_refl _,by unfold maxLen;omega,?_,?_,Or.inr ⟨w0.heap.size,4,rfl,Nat.lt_of_lt_of_le hs hb.size,?_⟩⟩,?_⟩
 ·intro i
  by_cases hi:i<4
  ·rw [lowW_lt hi];exact W4_words k i
  ·rw [show lowW (W4 k) 4 i=0 from if_neg hi];exact ⟨Int.le_refl _,by decide⟩
 ·intro i hi
  exact if_neg (by omega)
 ·intro i hi
  rw [lowW_lt hi,hb.cell (p:=⟨w0.heap.size,4+i,none⟩) hs]
  have:i=0∨i=1∨i=2∨i=3:=by omega
  rw [World.cell?_alloc_new]
  rcases this with rfl|rfl|rfl|rfl<;>rfl
 ·rw [val_congr (x:=lowW (W4 k) 4) (y:=W4 k) 4 (fun i hi=>lowW_lt hi),W4_val4 hk]
attribute [local irreducible] W4 Nt
end
section
attribute [local irreducible] W4 Nz Nt NT
section
variable (t ba d:Int)(num wi pr ex le mo pa:Int)(nm:ByteArray)(de:Bool)(w:World)(hT:Tab w)
include hT
theorem stg_e (b0:Int)
  (c2:∀ W,Tab W->CB 59 #[.int .i64 t] W (.tuple #[.agg #[.int .i64 num,.string nm,.int .i64 b0,.int .i64 wi,.int .i64 pr,.int .i64 ex,.int .i64 le,.int .i64 mo,.int .i64 pa,.bool de],.int .i64 1])) :
  CB 29 #[.int .i64 t,.int .i64 ba,.int .i64 d] w (.tuple #[IZ,.int .i64 1]):=by
 have hsm:=cell_set_map
 go_enter Tryz.func29,Tryz.ntmps29
 go_wp2_with (go_at_call 59;refine (c2 _ (hT.go bgo)).mono ?_;rintro r w1 ⟨rfl,hb1⟩;obtain ⟨_,_,_,_,hA1,_⟩:=wz w hb1;clear hb1)
 exact bodyPost_ret (v:=.tuple #[IZ,.int .i64 1]) (by simp only [results,Tryz.results29];go_simp) rfl ⟨rfl,bgo⟩
theorem stg_b (b0:Int)(hba:(b0 != ba)=true)
  (c2:∀ W,Tab W->CB 59 #[.int .i64 t] W (.tuple #[.agg #[.int .i64 num,.string nm,.int .i64 b0,.int .i64 wi,.int .i64 pr,.int .i64 ex,.int .i64 le,.int .i64 mo,.int .i64 pa,.bool de],.int .i64 0])) :
  CB 29 #[.int .i64 t,.int .i64 ba,.int .i64 d] w (.tuple #[IZ,.int .i64 1]):=by
 have hsm:=cell_set_map
 go_enter Tryz.func29,Tryz.ntmps29
 go_wp2_with (go_at_call 59;refine (c2 _ (hT.go bgo)).mono ?_;rintro r w1 ⟨rfl,hb1⟩;obtain ⟨_,_,_,_,hA1,_⟩:=wz w hb1;clear hb1)
 exact bodyPost_ret (v:=.tuple #[IZ,.int .i64 1]) (by simp only [results,Tryz.results29];go_simp) rfl ⟨rfl,bgo⟩
variable (c2:∀ W,Tab W->CB 59 #[.int .i64 t] W (.tuple #[.agg #[.int .i64 num,.string nm,.int .i64 ba,.int .i64 wi,.int .i64 pr,.int .i64 ex,.int .i64 le,.int .i64 mo,.int .i64 pa,.bool de],.int .i64 0]))
include c2
theorem stg_k (c3:∀ W,CQ 60 #[.int .i64 d] W (.bool false)) :
  CB 29 #[.int .i64 t,.int .i64 ba,.int .i64 d] w (.tuple #[IZ,.int .i64 1]):=by
 have hsm:=cell_set_map
 have hbb:(ba != ba)=false:=bne_self_eq_false ba
 go_enter Tryz.func29,Tryz.ntmps29
 go_wp2_with (first
  | (go_at_call 59;refine (c2 _ (hT.go bgo)).mono ?_;rintro r w1 ⟨rfl,hb1⟩;obtain ⟨_,_,_,_,hA1,_⟩:=wz w hb1;clear hb1)
  | (go_at_call 60;refine (c3 _).mono ?_;rintro r w2 ⟨rfl,rfl⟩))
 exact bodyPost_ret (v:=.tuple #[IZ,.int .i64 1]) (by simp only [results,Tryz.results29];go_simp) rfl ⟨rfl,bgo⟩
theorem stg_y (c3:∀ W,CQ 60 #[.int .i64 d] W (.bool true)) :
  CB 29 #[.int .i64 t,.int .i64 ba,.int .i64 d] w (.tuple #[.agg #[.int .i64 num,.string nm,.int .i64 ba,.int .i64 wi,.int .i64 pr,.int .i64 ex,.int .i64 le,.int .i64 mo,.int .i64 pa,.bool de],.int .i64 0]):=by
 have hsm:=cell_set_map
 have hbb:(ba != ba)=false:=bne_self_eq_false ba
 go_enter Tryz.func29,Tryz.ntmps29
 go_wp2_with (first
  | (go_at_call 59;refine (c2 _ (hT.go bgo)).mono ?_;rintro r w1 ⟨rfl,hb1⟩;obtain ⟨_,_,_,_,hA1,_⟩:=wz w hb1;clear hb1)
  | (go_at_call 60;refine (c3 _).mono ?_;rintro r w2 ⟨rfl,rfl⟩))
 exact bodyPost_ret (v:=.tuple #[.agg #[.int .i64 num,.string nm,.int .i64 ba,.int .i64 wi,.int .i64 pr,.int .i64 ex,.int .i64 le,.int .i64 mo,.int .i64 pa,.bool de],.int .i64 0]) (by simp only [results,Tryz.results29];go_simp) rfl ⟨rfl,bgo⟩
end
abbrev InfV (t:Int):Value:=.agg #[.int .i64 (numN t),.string (nameN t),.int .i64 (baseN t),.int .i64 (widthN t),.int .i64 (precN t),.int .i64 (expN t),.int .i64 (leastN t),.int .i64 (mostN t),.int .i64 (payN t),.bool (denseN t)]
theorem starg_y {t ba d:Int}(w:World)(hT:Tab w)(h1:okN t)(h2:baseN t=ba)(h3:knB d) :
  CB 29 #[.int .i64 t,.int .i64 ba,.int .i64 d] w (.tuple #[InfV t,.int .i64 0]):=by
 have c2:=fun W h=>ofv_any t W h
 have c3:=fun W=>known_any d W
 rw [decide_eq_true h3] at c3
 rw [show infoE t=0 from if_pos h1,h2] at c2
 unfold InfV
 rw [h2]
 exact stg_y t ba d _ _ _ _ _ _ _ _ _ w hT c2 c3
theorem starg_n {t ba d:Int}(w:World)(hT:Tab w)(h:¬ (okN t/\baseN t=ba/\knB d)) :
  CB 29 #[.int .i64 t,.int .i64 ba,.int .i64 d] w (.tuple #[IZ,.int .i64 1]):=by
 have c2:=fun W h=>ofv_any t W h
 have c3:=fun W=>known_any d W
 by_cases h1:okN t
 ·rw [show infoE t=0 from if_pos h1] at c2
  by_cases h2:baseN t=ba
  ·rw [h2] at c2
   by_cases h3:knB d
   ·exact absurd ⟨h1,h2,h3⟩ h
   ·rw [decide_eq_false h3] at c3
    exact stg_k t ba d _ _ _ _ _ _ _ _ _ w hT c2 c3
  ·exact stg_b t ba d _ _ _ _ _ _ _ _ _ w hT _ (by rw [bne_iff_ne];exact h2) c2
 ·rw [show infoE t=1 from if_neg h1] at c2
  exact stg_e t ba d _ _ _ _ _ _ _ _ _ w hT _ c2
section
variable (num ba wi pr ex le mo pa c x:Int)(nm:ByteArray)(de s g:Bool)(k Q:Nat)(hk:k<2^256)(w:World)(cm:Int)
 (c61:∀ W,Calls Tryz.prog 61 #[.int .i64 ba,.int .i64 pa] W fun r w'=>∃ v,r=.returned (.tuple #[v,.int .i64 0])/\Nt 2001 Q v w'/\Below W.heap.size W w')
 (c64:∀ W v u,Nt 4 k v W->Nt 2001 Q u W->CB 64 #[v,u] W (.int .i64 cm))
include hk c61 c64
theorem scnv_l (h:cm<0) :
  CB 31 #[.agg #[.int .i64 num,.string nm,.int .i64 ba,.int .i64 wi,.int .i64 pr,.int .i64 ex,.int .i64 le,.int .i64 mo,.int .i64 pa,.bool de],DV c s g x k] w (.tuple #[DV c s false x k,.int .i64 (if g then 1 else 0)]):=by
 have hbx:=fun W hW=>dat_box (w0:=w.alloc (.cells #[.int .i64 num,.string nm,.int .i64 ba,.int .i64 wi,.int .i64 pr,.int .i64 ex,.int .i64 le,.int .i64 mo,.int .i64 pa,.bool de] 57)) (w:=W) (c:=c) (s:=s) (g:=g) (x:=x) (t:=38) hk hW
 have h':¬ 0<=cm:=by omega
 have h'':decide (0<=cm)=false:=decide_eq_false h'
 have hsm:=cell_set_map
 cases g
 all_goals (
  go_enter Tryz.func31,Tryz.ntmps31
  go_wp2_with (first
   | (go_at_call 61;refine (c61 _).mono ?_;rintro r w1 ⟨v1,rfl,hv1,hb1⟩;have hv0:=hbx _ (bnx (below1 _ _) hb1);obtain ⟨_,_,_,_,hA1,_⟩:=wz w hb1;obtain ⟨_,_⟩:=zf hb1 (w.heap.size+1);obtain ⟨_,_⟩:=zf hb1 (w.heap.size+1+1);clear hb1)
   | (go_at_call 64;refine (c64 _ _ _ (by simpa using hv0) hv1).mono ?_;rintro r w2 ⟨rfl,hb2⟩;obtain ⟨_,_,_,_,hA2,_⟩:=wz w hb2;obtain ⟨_,_⟩:=zf hb2 (w.heap.size+1);obtain ⟨_,_⟩:=zf hb2 (w.heap.size+1+1);clear hb2))
  exact bodyPost_ret (by simp only [results,Tryz.results31];go_simp) rfl ⟨rfl,bgo⟩)
theorem scnv_g (h:0<=cm) :
  CB 31 #[.agg #[.int .i64 num,.string nm,.int .i64 ba,.int .i64 wi,.int .i64 pr,.int .i64 ex,.int .i64 le,.int .i64 mo,.int .i64 pa,.bool de],DV c s g x k] w (.tuple #[DV c s false x 0,.int .i64 (if g then 1 else 0)]):=by
 have hbx:=fun W hW=>dat_box (w0:=w.alloc (.cells #[.int .i64 num,.string nm,.int .i64 ba,.int .i64 wi,.int .i64 pr,.int .i64 ex,.int .i64 le,.int .i64 mo,.int .i64 pa,.bool de] 57)) (w:=W) (c:=c) (s:=s) (g:=g) (x:=x) (t:=38) hk hW
 have h'':decide (0<=cm)=true:=decide_eq_true h
 have hz:DV c s false x 0=.agg #[.int .i64 c,.bool s,.bool false,.int .i64 x,.int .u64 0,.int .u64 0,.int .u64 0,.int .u64 0]:=by unfold DV;simp only [W4_zero]
 rw [hz]
 clear hz
 have hsm:=cell_set_map
 cases g
 all_goals (
  go_enter Tryz.func31,Tryz.ntmps31
  go_wp2_with (first
   | (go_at_call 61;refine (c61 _).mono ?_;rintro r w1 ⟨v1,rfl,hv1,hb1⟩;have hv0:=hbx _ (bnx (below1 _ _) hb1);obtain ⟨_,_,_,_,hA1,_⟩:=wz w hb1;obtain ⟨_,_⟩:=zf hb1 (w.heap.size+1);obtain ⟨_,_⟩:=zf hb1 (w.heap.size+1+1);clear hb1)
   | (go_at_call 64;refine (c64 _ _ _ (by simpa using hv0) hv1).mono ?_;rintro r w2 ⟨rfl,hb2⟩;obtain ⟨_,_,_,_,hA2,_⟩:=wz w hb2;obtain ⟨_,_⟩:=zf hb2 (w.heap.size+1);obtain ⟨_,_⟩:=zf hb2 (w.heap.size+1+1);clear hb2))
  exact bodyPost_ret (by simp only [results,Tryz.results31];go_simp) rfl ⟨rfl,bgo⟩)
end
theorem sconv_v (t:Int)(Q:Nat)(hQ:∀ W,Calls Tryz.prog 61 #[.int .i64 (baseN t),.int .i64 (payN t)] W fun r w'=>∃ v,r=.returned (.tuple #[v,.int .i64 0])/\Nt 2001 Q v w'/\Below W.heap.size W w')(c x:Int)(s g:Bool){k:Nat}(hk:k<2^256)(w:World) :
  CB 31 #[InfV t,DV c s g x k] w (.tuple #[DV c s false x (if k<Q then k else 0),.int .i64 (if g then 1 else 0)]):=by
 have c64:∀ W v u,Nt 4 k v W->Nt 2001 Q u W->CB 64 #[v,u] W (.int .i64 (sgn (k:Int) (Q:Int))):=fun W v u h1 h2=>ncmp_v (by decide) (by decide) h1 h2
 by_cases h:k<Q
 ·rw [if_pos h]
  refine scnv_l _ _ _ _ _ _ _ _ c x _ _ s g k Q hk w _ hQ c64 ?_
  rcases sgn_ways (k:Int) (Q:Int) with ⟨x,e⟩|⟨x,e⟩|⟨x,e⟩<;>omega
 ·rw [if_neg h]
  refine scnv_g _ _ _ _ _ _ _ _ c x _ _ s g k Q hk w _ hQ c64 ?_
  rcases sgn_ways (k:Int) (Q:Int) with ⟨x,e⟩|⟨x,e⟩|⟨x,e⟩<;>omega
end
section
theorem nt_at0 {W:World}{g k:Nat}(hk:k<2^256)(hg:g<W.heap.size)(h0:W.cell? ⟨g,0,none⟩=some (.int .u64 (W4 k 0)))(h1:W.cell? ⟨g,1,none⟩=some (.int .u64 (W4 k 1)))(h2:W.cell? ⟨g,2,none⟩=some (.int .u64 (W4 k 2)))(h3:W.cell? ⟨g,3,none⟩=some (.int .u64 (W4 k 3))) :
  Nt 4 k (.slice (some ⟨g,0,none⟩) 4 4) W:=by
 unfold Nt
 refine ⟨some ⟨g,0,none⟩,4,4,fun i=>if i<4 then W4 k i else 0,rfl,Nat.le_refl _,⟨Nat.le_refl _,by unfold maxLen;omega,fun i=>?_,fun i hi=>if_neg (by omega),Or.inr ⟨g,0,rfl,hg,fun i hi=>?_⟩⟩,?_⟩
 ·dsimp only
  split
  ·exact W4_words k i
  ·exact ⟨Int.le_refl _,by decide⟩
 ·have:i=0∨i=1∨i=2∨i=3:=by omega
  rcases this with rfl|rfl|rfl|rfl
  ·exact h0
  ·exact h1
  ·exact h2
  ·exact h3
 ·have e:=W4_val4 hk
  rw [← e]
  simp [val]
attribute [local irreducible] W4 Nz Nt NT NV
theorem rnat_v (k:Nat)(w:World)(hk:k<2^256) :
  CE 41 #[A4 k] w (NT 4 k):=by
 have hn0:Nt 4 k (.slice (some ⟨w.heap.size,0,none⟩) 4 4) (w.alloc (.cells #[.int .u64 (W4 k 0),.int .u64 (W4 k 1),.int .u64 (W4 k 2),.int .u64 (W4 k 3)] 24)):=nt_at0 hk (by simp) (by go_simp) (by go_simp) (by go_simp) (by go_simp)
 have c49:=rtrim_nt (by decide) hn0
 have hb0:=below1 w (.cells #[.int .u64 (W4 k 0),.int .u64 (W4 k 1),.int .u64 (W4 k 2),.int .u64 (W4 k 3)] 24)
 clear hn0
 unfold A4
 go_enter Tryz.func41,Tryz.ntmps41
 go_wp2_with (go_at_call 37;refine c49.mono ?_;rintro r w1 ⟨v,rfl,hv,hb1⟩)
 go_ret
 exact ⟨v,rfl,hv,bnx hb0 hb1⟩
section
variable {a:Act}{w:World}{K:Act->World->Prop}{Q:Exit->Act->World->Prop}{d p q:Nat}{ty:TypeId}{pos:String}{after:Array Edge}{gd:Option (Nat×Bool)}
end
section
variable {a:Act}{w:World}{K:Act->World->Prop}{Q:Exit->Act->World->Prop}{d p q p2 p3 p4:Nat}{ty:TypeId}{pos:String}{after:Array Edge}{gd:Option (Nat×Bool)}
end
end
def Prt.at (p:Prt)(s:Bool):Prt:=⟨p.cls,s,p.sn,p.dig,p.ex⟩
/-! Make by value -/
/-! Read by value -/
section
theorem NT.head {K V:Nat}{v:Value}{w:World}(h:NT K V v w)(hV:V≠0):∃ g k cap z0,v=.slice (some ⟨g,0,none⟩) k cap/\0<k/\k<=K/\g<w.heap.size/\w.cell? ⟨g,0,none⟩=some (.int .u64 z0)/\0<=z0/\z0<=18446744073709551615/\z0%2=((V%2:Nat):Int):=by
 have hz:=h.zero
 obtain ⟨g,k,cap,z,rfl,hk,⟨n1,n2,n3,n4,n5⟩,hv,hs⟩:=h
 obtain ⟨g',k',cap',e,_,hz'⟩:=hz
 cases e
 have hk0:k≠0:=fun e=>hV (hz'.1 e)
 rcases n5 with ⟨n5,_⟩|⟨b,off,e,hb,hc⟩
 ·cases n5
 ·cases e
  have hc0:=hc 0 (by omega)
  have hw:=n3 0
  have hp:=val_odd (by omega:0<k) hv
  exact ⟨g,k,cap,z 0,rfl,by omega,hk,hb,hc0,hw.1,hw.2,by omega⟩
attribute [local irreducible] W4 Nz Nt NT NV
end
theorem vI_k {f:DF}(hf:f.ok){v:Dat}(h:vI f v):v.k<2^256:=by
 obtain ⟨m0,m1,l0,l1,lm,j0,j1⟩:=ok_m hf
 have h1:(10:Nat)^(3*f.j+1)<=10^34:=Nat.pow_le_pow_right (by decide) (by omega)
 have h2:(10:Nat)^(3*f.j)<=10^34:=Nat.pow_le_pow_right (by decide) (by omega)
 have h3:(10:Nat)^34<2^256:=by decide
 rcases h with ⟨_,_,a,_⟩|⟨_,_,a,_⟩|⟨_,_,a⟩
 ·omega
 ·rw [a];decide
 ·omega
section
abbrev zd:Array Value:=#[.int .i64 0,.bool false,.bool false,.int .i64 0,.int .u64 0,.int .u64 0,.int .u64 0,.int .u64 0]
theorem below_cellsD {n b:Nat}{a:World}(hb:n<=b):∀ (vs:List Value) (o:Nat) (W:World),Below n a W->Below n a (W.setCells b o vs)
 | [],_,_,h=>h
 | v::r,o,W,h=>below_cellsD hb r (o+1) _ (h.setCell hb v)
def D8 (g:Nat)(cs:Array Value)(w:World):Prop:=g<w.heap.size/\cs.size=8/\(∀ i,i<8->w.cell? ⟨g,i,none⟩=cs[i]?)/\∀ i,w.frozen? ⟨g,i,none⟩=false
theorem D8.next {g:Nat}{cs:Array Value}{w w':World}(h:D8 g cs w)(hb:Below w.heap.size w w'):D8 g cs w' :=
 ⟨Nat.lt_of_lt_of_le h.1 hb.size,h.2.1,fun i hi=>(hb.cell (p:=⟨g,i,none⟩) h.1).trans (h.2.2.1 i hi),fun i=>(hb.frozen (p:=⟨g,i,none⟩) h.1).trans (h.2.2.2 i)⟩
theorem D8.new (w:World):D8 w.heap.size zd (w.alloc (.cells zd 38)):=by
 refine ⟨by simp,rfl,fun i hi=>?_,fun i=>?_⟩
 ·rw [World.cell?_alloc_new]
 ·simp [go_sem]
theorem D8.put {g:Nat}{cs cs':Array Value}{w:World}(h:D8 g cs w)(hs:cs'.size=8):D8 g cs' (w.setCells g 0 cs'.toList):=by
 have hin:=World.cell?_setCells_in g cs'.toList 0 w (fun j hj=>by
  rw [Nat.zero_add,h.2.2.1 j (by simpa [hs] using hj),Array.getElem?_eq_getElem (by rw [h.2.1];simpa [hs] using hj)];rfl)
 refine ⟨Nat.lt_of_lt_of_le h.1 (below_cellsD (n:=0) (Nat.zero_le _) _ _ _ (Below.refl 0 w)).size,hs,fun i hi=>?_,fun i=>?_⟩
 ·have:=hin i (by simpa [hs] using hi)
  rw [Nat.zero_add] at this
  rw [this,Array.getElem?_eq_getElem (by rw [hs];exact hi)]
  simp
 ·rw [World.frozen?_setCells];exact h.2.2.2 i
attribute [local irreducible] W4 Nt NT
section
variable {a:Act}{w:World}{K:Act->World->Prop}{Q:Exit->Act->World->Prop}{d p q:Nat}{ty:TypeId}{pos:String}{after:Array Edge}{gd:Option (Nat×Bool)}
end
end
def twN (n:Int):Int:=if n<=9 then n+3 else n-3
def twV (n:Int):Int:=if decN n then twN n else 0
def twE (n:Int):Int:=if decN n then 0 else 1
theorem tw_dec {n:Int}(h:decN n):decN (twN n):=by
 unfold twN
 unfold decN at *
 split<;>omega
theorem fD_tw {n:Int}(h:decN n):∃ b,fD (twN n)={ fD n with dn:=b }:=by
 rcases dec_cases h with rfl|rfl|rfl|rfl|rfl|rfl<;>exact ⟨_,rfl⟩
theorem vI_tw {n:Int}(h:decN n)(v:Dat):vI (fD (twN n)) v↔vI (fD n) v:=by
 obtain ⟨b,e⟩:=fD_tw h
 rw [e]
 exact Iff.rfl
def tcV (n:Int)(B:Nat):Nat:=if goodD n B then vP (fD (twN n)) (vM (fD n) B) else 0
theorem tc_good {n:Int}{B:Nat}(h:goodD n B):goodD (twN n) (tcV n B)/\vM (fD (twN n)) (tcV n B)=vM (fD n) B/\tcV n B<2^256:=by
 have hi:=(vI_tw h.1 _).2 (vM_is (fD_ok n) B)
 have e:tcV n B=vP (fD (twN n)) (vM (fD n) B):=if_pos h
 rw [e]
 exact ⟨⟨tw_dec h.1,vP_lt (fD_ok _) hi⟩,vM_vP (fD_ok _) hi,vP_256 (fD_ok _) hi⟩
theorem tc_pack {n:Int}{B:Nat}(h:goodD n B):vPV (twN n) (vM (fD n) B)=tcV n B/\vPE (twN n) (vM (fD n) B)=0:=by
 have hi:=(vI_tw h.1 _).2 (vM_is (fD_ok n) B)
 unfold vPV vPE tcV
 rw [if_pos ⟨tw_dec h.1,hi⟩,if_pos (tw_dec h.1),if_pos hi,if_pos h]
 exact ⟨rfl,rfl⟩
section
structure TrcC (TT:World->Prop):Prop where
 next:∀ w w',TT w->Below w.heap.size w w'->TT w'
 tw:∀ n W,TT W->CB 21 #[.int .i64 n] W (.tuple #[.int .i64 (twV n),.int .i64 (twE n)])
 cd:∀ n Bp W,Bp<2^256->TT W->CB 22 #[.int .i64 n,A4 Bp] W (.tuple #[A4 (tcV n Bp),.int .i64 (vUE n Bp)])
attribute [local irreducible] W4
theorem tw_ne {n:Int}(h:decN n):(twN n==n)=false:=by
 rcases dec_cases h with rfl|rfl|rfl|rfl|rfl|rfl<;>rfl
end
section
attribute [local irreducible] W4 NT NV
section
variable (t d:Int)(c x:Int)(s g:Bool)(k:Nat)(w:World)
theorem int10_2 (hc:c=2)(R:Nat)(E:Int)
  (c53:∀ W,CB 69 #[.int .i64 t,.agg #[.int .i64 2,.bool s,.bool false,.int .i64 0,.int .u64 0,.int .u64 0,.int .u64 0,.int .u64 0]] W (.tuple #[A4 R,.int .i64 E])) :
  CB 33 #[.int .i64 t,.int .i64 d,DV c s g x k,.int .u64 10] w (.tuple #[A4 R,.int .i64 0,.int .i64 0]):=by
 subst hc
 have hsm:=cell_set_map
 unfold A4 at *
 go_enter Tryz.func33,Tryz.ntmps33
 go_wp2_with (go_at_call 69;refine (c53 _).mono ?_;rintro r w1 ⟨rfl,hb1⟩;obtain ⟨_,_,_,_,hA1,_⟩:=wz w hb1;obtain ⟨_,_⟩:=zf hb1 (w.heap.size+1);clear hb1)
 exact bodyPost_ret (by simp only [results,Tryz.results33];go_simp) rfl ⟨rfl,bgo⟩
theorem int10_3 (hc:c=3)(R k':Nat)(F E:Int)
  (c54:∀ W,CB 70 #[.int .i64 t,DV 3 s g x k] W (.tuple #[DV 3 s false x k',.int .i64 F]))
  (c53:∀ W,CB 69 #[.int .i64 t,DV 3 s false x k'] W (.tuple #[A4 R,.int .i64 E])) :
  CB 33 #[.int .i64 t,.int .i64 d,DV c s g x k,.int .u64 10] w (.tuple #[A4 R,.int .i64 F,.int .i64 0]):=by
 subst hc
 have hsm:=cell_set_map
 unfold A4 at *
 go_enter Tryz.func33,Tryz.ntmps33
 go_wp2_with (first
  | (go_at_call 70;refine (c54 _).mono ?_;rintro r w1 ⟨rfl,hb1⟩;obtain ⟨_,_,_,_,hA1,_⟩:=wz w hb1;obtain ⟨_,_⟩:=zf hb1 (w.heap.size+1);clear hb1)
  | (go_at_call 69;refine (c53 _).mono ?_;rintro r w2 ⟨rfl,hb2⟩;obtain ⟨_,_,_,_,hA2,_⟩:=wz w hb2;obtain ⟨_,_⟩:=zf hb2 (w.heap.size+1);obtain ⟨_,_⟩:=zf hb2 w1.heap.size;clear hb2))
 exact bodyPost_ret (by simp only [results,Tryz.results33];go_simp) rfl ⟨rfl,bgo⟩
theorem int10_0 (hc:c=1)(R:Nat)(F:Int)
  (c55:∀ W,Calls Tryz.prog 41 #[A4 k] W fun r w'=>∃ gv cv,r=.returned (.slice (some ⟨gv,0,none⟩) 0 cv)/\NT 4 0 (.slice (some ⟨gv,0,none⟩) 0 cv) w'/\Below W.heap.size W w')
  (c57:∀ W vn vd,NT 4 0 vn W->NT 900 1 vd W->CB 72 #[.int .i64 t,.int .i64 d,.bool s,vn,vd,.int .i64 0] W (.tuple #[A4 R,.int .i64 F])) :
  CB 33 #[.int .i64 t,.int .i64 d,DV c s g x k,.int .u64 10] w (.tuple #[A4 R,.int .i64 F,.int .i64 0]):=by
 subst hc
 have hsm:=cell_set_map
 unfold A4 at *
 go_enter Tryz.func33,Tryz.ntmps33
 go_wp2_with (first
  | (go_at_call 41;refine (c55 _).mono ?_;rintro r w1 ⟨gv,cv,rfl,hn,hb1⟩;obtain ⟨_,_,_,_,hA1,_⟩:=wz w hb1;obtain ⟨_,_⟩:=zf hb1 (w.heap.size+1);clear hb1)
  | (go_at_call 72;refine (c57 _ _ _ (hn.next bgo) (nt_oneB rfl)).mono ?_;rintro r w2 ⟨rfl,hb2⟩;obtain ⟨_,_,_,_,hA2,_⟩:=wz w hb2;obtain ⟨_,_⟩:=zf hb2 (w.heap.size+1);obtain ⟨_,_⟩:=zf hb2 w1.heap.size;clear hb2))
 exact bodyPost_ret (by simp only [results,Tryz.results33];go_simp) rfl ⟨rfl,bgo⟩
theorem int10_1 (hc:c=1)(R N D:Nat)(F:Int)
  (c55:∀ W,Calls Tryz.prog 41 #[A4 k] W fun r w'=>∃ gv kv cv,r=.returned (.slice (some ⟨gv,0,none⟩) kv cv)/\(0:Int)<kv/\NT 4 k (.slice (some ⟨gv,0,none⟩) kv cv) w'/\Below W.heap.size W w')
  (c56:∀ W vn vd,NT 4 k vn W->NT 900 1 vd W->Calls Tryz.prog 71 #[vn,vd,.int .u64 10,.int .i64 x] W fun r w'=>∃ a b,r=.returned (.tuple #[a,b])/\NT 2001 N a w'/\NT 2001 D b w'/\Below W.heap.size W w')
  (c57:∀ W vn vd,NT 2001 N vn W->NT 2001 D vd W->CB 72 #[.int .i64 t,.int .i64 d,.bool s,vn,vd,.int .i64 0] W (.tuple #[A4 R,.int .i64 F])) :
  CB 33 #[.int .i64 t,.int .i64 d,DV c s g x k,.int .u64 10] w (.tuple #[A4 R,.int .i64 F,.int .i64 0]):=by
 subst hc
 have hsm:=cell_set_map
 unfold A4 at *
 go_enter Tryz.func33,Tryz.ntmps33
 go_wp2_with (first
  | (go_at_call 41;refine (c55 _).mono ?_;rintro r w1 ⟨gv,kv,cv,rfl,hkv,hn,hb1⟩;obtain ⟨_,_,_,_,hA1,_⟩:=wz w hb1;obtain ⟨_,_⟩:=zf hb1 (w.heap.size+1);clear hb1)
  | (go_at_call 71;refine (c56 _ _ _ (hn.next bgo) (nt_oneB rfl)).mono ?_;rintro r w2 ⟨a2,b2,rfl,nA,nB,hb2⟩;obtain ⟨_,_,_,_,hA2,_⟩:=wz w hb2;obtain ⟨_,_⟩:=zf hb2 (w.heap.size+1);obtain ⟨_,_⟩:=zf hb2 w1.heap.size;clear hb2)
  | (go_at_call 72;refine (c57 _ _ _ nA nB).mono ?_;rintro r w3 ⟨rfl,hb3⟩;obtain ⟨_,_,_,_,hA3,_⟩:=wz w hb3;obtain ⟨_,_⟩:=zf hb3 (w.heap.size+1);obtain ⟨_,_⟩:=zf hb3 w1.heap.size;clear hb3))
 exact bodyPost_ret (by simp only [results,Tryz.results33];go_simp) rfl ⟨rfl,bgo⟩
end
section
variable (m t d:Int)(B:Nat)(w:World)
theorem rci_n (b1 b2 b3:Bool)(hn:(b1&&b2&&b3)=false)
  (c8:∀ W,CB 20 #[.int .i64 m,A4 B] W (.bool b1))
  (c14:∀ W,CQ 12 #[.int .i64 t] W (.bool b2))
  (c10:∀ W,CQ 13 #[.int .i64 d] W (.bool b3)) :
  CB 10 #[.int .i64 m,.int .i64 t,.int .i64 d,A4 B] w (.tuple #[A4 0,.int .i64 0,.int .i64 1]):=by
 have hsm:=cell_set_map
 rw [A4_zero]
 unfold A4 at *
 cases b1<;>cases b2<;>cases b3<;>simp only [Bool.and_self,Bool.and_true,Bool.and_false,Bool.true_and,Bool.false_and,Bool.true_eq_false] at hn
 all_goals (
  clear hn
  go_enter Tryz.func10,Tryz.ntmps10
  go_wp2_with (first
   | (go_at_call 20;refine (c8 _).mono ?_;rintro r w1 ⟨rfl,hb1⟩;obtain ⟨_,_,_,_,hA1,_⟩:=wz w hb1;obtain ⟨_,_⟩:=zf hb1 (w.heap.size+1);clear hb1)
   | (go_at_call 12;refine (c14 _).mono ?_;rintro r w2 ⟨rfl,rfl⟩)
   | (go_at_call 13;refine (c10 _).mono ?_;rintro r w3 ⟨rfl,rfl⟩))
  exact bodyPost_ret (by simp only [results,Tryz.results10];go_simp) rfl ⟨rfl,bgo⟩)
theorem rci_y (c x:Int)(s g ok:Bool)(k V:Nat)(F:Int)
  (c8:∀ W,CB 20 #[.int .i64 m,A4 B] W (.bool true))
  (c14:∀ W,CQ 12 #[.int .i64 t] W (.bool true))
  (c10:∀ W,CQ 13 #[.int .i64 d] W (.bool true))
  (c40:∀ W,CB 23 #[.int .i64 m,A4 B] W (.tuple #[DV c s g x k,.bool ok,.int .i64 0]))
  (c41:∀ W,CB 33 #[.int .i64 t,.int .i64 d,DV c s g x k,.int .u64 10] W (.tuple #[A4 V,.int .i64 F,.int .i64 0])) :
  CB 10 #[.int .i64 m,.int .i64 t,.int .i64 d,A4 B] w (.tuple #[A4 V,.int .i64 F,.int .i64 0]):=by
 have hsm:=cell_set_map
 unfold A4 at *
 go_enter Tryz.func10,Tryz.ntmps10
 go_wp2_with (first
  | (go_at_call 20;refine (c8 _).mono ?_;rintro r w1 ⟨rfl,hb1⟩;obtain ⟨_,_,_,_,hA1,_⟩:=wz w hb1;obtain ⟨_,_⟩:=zf hb1 (w.heap.size+1);clear hb1)
  | (go_at_call 12;refine (c14 _).mono ?_;rintro r w2 ⟨rfl,rfl⟩)
  | (go_at_call 13;refine (c10 _).mono ?_;rintro r w3 ⟨rfl,rfl⟩)
  | (go_at_call 23;refine (c40 _).mono ?_;rintro r w4 ⟨rfl,hb4⟩;obtain ⟨_,_,_,_,hA4,_⟩:=wz w hb4;obtain ⟨_,_⟩:=zf hb4 (w.heap.size+1);clear hb4)
  | (go_at_call 33;refine (c41 _).mono ?_;rintro r w5 ⟨rfl,hb5⟩;obtain ⟨_,_,_,_,hA5,_⟩:=wz w hb5;obtain ⟨_,_⟩:=zf hb5 (w.heap.size+1);obtain ⟨_,_⟩:=zf hb5 w4.heap.size;clear hb5))
 exact bodyPost_ret (by simp only [results,Tryz.results10];go_simp) rfl ⟨rfl,bgo⟩
end
def ciV (t d:Int)(D:Dat):Nat:=if D.c=2 then pkV t ⟨2,D.s,false,0,0⟩ else if D.c=3 then pkV t ⟨3,D.s,false,0,if D.k<2^(fN t-1) then D.k else 0⟩ else rdV t d D.s (tN D.k D.x) (tD D.x) D.x
def ciF (t d:Int)(D:Dat):Int:=if D.c=2 then 0 else if D.c=3 then (if D.g then 1 else 0) else rdF t d D.s (tN D.k D.x) (tD D.x) D.x
theorem vI_x {f:DF}(hf:f.ok){v:Dat}(h:vI f v):-10000<=v.x/\v.x<=10000:=by
 obtain ⟨m0,m1,l0,l1,lm,j0,j1⟩:=ok_m hf
 unfold DF.m at *
 rcases h with ⟨_,_,_,a,b⟩|⟨_,_,_,a⟩|⟨_,a,_⟩<;>omega
theorem into10_v {t d:Int}(hb:binN t)(hd:knB d){f:DF}(hf:f.ok){v:Dat}(h:vI f v)(w:World) :
  CB 33 #[.int .i64 t,.int .i64 d,v.v,.int .u64 10] w (.tuple #[A4 (ciV t d v),.int .i64 (ciF t d v),.int .i64 0]):=by
 have hk:=vI_k hf h
 have hx:=vI_x hf h
 obtain ⟨c,s,g,x,k⟩:=v
 dsimp only at hk hx
 show Calls Tryz.prog 33 #[.int .i64 t,.int .i64 d,DV c s g x k,.int .u64 10] w _
 rcases h with ⟨h1,h2,h3,h4,h5⟩|⟨h1,h2,h3,h4⟩|⟨h1,h2,h3⟩
 ·dsimp only at h1 h2
  subst h1
  have hV:ciV t d ⟨1,s,g,x,k⟩=rdV t d s (tN k x) (tD x) x:=rfl
  have hF:ciF t d ⟨1,s,g,x,k⟩=rdF t d s (tN k x) (tD x) x:=rfl
  obtain ⟨t1,t2⟩:=ten_shift t d s k x
  rw [hV,hF,← t1,← t2]
  by_cases h0:k=0
  ·subst h0
   rw [Nat.zero_mul]
   refine int10_0 t d 1 x s g 0 w rfl _ _ (fun W=>?_) (fun W vn vd hn hd'=>?_)
   ·refine (rnat_v 0 W (by decide)).mono ?_
    rintro r w' ⟨v,rfl,hv,hb'⟩
    obtain ⟨gv,kv,cv,rfl,_,hz⟩:=hv.zero
    have:kv=0:=hz.2 rfl
    subst this
    exact ⟨gv,cv,rfl,hv,hb'⟩
   ·have h:=round_v t d 0 s (hn.more (K':=2001) (by decide)) (hd'.more (K':=2001) (by decide)) hb hd (by decide) (by decide) (by decide)
    obtain ⟨e1,e2⟩:=do_eq d s 0 (D:=1) 0 hb (by decide) (by decide) (by decide)
    rw [e1,e2,(r_zero d s 1 0 hb).1,(r_zero d s 1 0 hb).2,← (r_zero d s (10^(-x).toNat) 0 hb).1] at h
    rw [(r_zero d s (10^(-x).toNat) 0 hb).2]
    exact h
  ·have hbk:bl k<=256:=bl_le.2 hk
   refine int10_1 t d 1 x s g k w rfl _ (k*10^x.toNat) (1*10^(-x).toNat) _ (fun W=>?_) (fun W vn vd hn hd'=>rscale10 x (by omega) (hn.more (by decide)) (hd'.more (by decide)) (by omega) (by decide)) (fun W vn vd hn hd'=>?_)
   ·refine (rnat_v k W hk).mono ?_
    rintro r w' ⟨v,rfl,hv,hb'⟩
    obtain ⟨gv,kv,cv,rfl,_,hz⟩:=hv.zero
    have:kv≠0:=fun e=>h0 (hz.1 e)
    exact ⟨gv,kv,cv,rfl,by omega,hv,hb'⟩
   ·have b0:=bl_mul k (10^x.toNat)
    have b1:=ten_bl x.toNat
    have b2:=ten_bl (-x).toNat
    rw [Nat.one_mul] at hd'
    have hD0:10^(-x).toNat≠0:=Nat.pos_iff_ne_zero.1 (Nat.pow_pos (by decide))
    have h:=round_v t d 0 s hn hd' hb hd hD0 (by omega) (by omega)
    obtain ⟨e1,e2⟩:=do_eq d s (k*10^x.toNat) 0 hb hD0 (by omega) (by omega)
    rw [e1,e2] at h
    exact h
 ·dsimp only at h1 h2 h3 h4
  subst h1 h2 h3 h4
  have c53:=fun W=>rpack_any t ⟨2,s,false,0,0⟩ W (show 0<2^256 by decide)
  rw [show (Dat.v ⟨2,s,false,0,0⟩)=_ from DV_zero 2 s false 0] at c53
  exact int10_2 t d 2 0 s false 0 w rfl _ _ c53
 ·dsimp only at h1 h2 h3
  subst h1 h2
  have hk':(if k<2^(fN t-1) then k else 0)<2^256:=by split<;>omega
  exact int10_3 t d 3 0 s g k w rfl _ _ _ _ (fun W=>rnan_v hb 3 0 s g k hk W) (fun W=>rpack_any t ⟨3,s,false,0,if k<2^(fN t-1) then k else 0⟩ W hk')
def xiG (m t d:Int)(B:Nat):Prop:=goodD m B/\binN t/\knB d
instance (m t d:Int) (B:Nat):Decidable (xiG m t d B):=inferInstanceAs (Decidable (_/\_))
def xiV (m t d:Int)(B:Nat):Nat:=if xiG m t d B then ciV t d (vM (fD m) B) else 0
def xiF (m t d:Int)(B:Nat):Int:=if xiG m t d B then ciF t d (vM (fD m) B) else 0
def xiE (m t d:Int)(B:Nat):Int:=if xiG m t d B then 0 else 1
theorem rconv18 (m t d:Int)(B:Nat)(w:World)(hB:B<2^256) :
  CB 10 #[.int .i64 m,.int .i64 t,.int .i64 d,A4 B] w (.tuple #[A4 (xiV m t d B),.int .i64 (xiF m t d B),.int .i64 (xiE m t d B)]):=by
 have c8:=fun W=>rgood14 m B hB W
 have c14:∀ W,CQ 12 #[.int .i64 t] W (.bool (decide (binN t))):=fun W=>(rbinary_any t W).mono fun r w' h=>⟨h.1,h.2.symm⟩
 have c10:=fun W=>rdir_any d W
 unfold xiV xiF xiE
 by_cases h:xiG m t d B
 ·rw [if_pos h,if_pos h,if_pos h]
  obtain ⟨h1,h2,h3⟩:=h
  rw [decide_eq_true h1] at c8
  rw [decide_eq_true h2] at c14
  rw [decide_eq_true h3] at c10
  have c40:=fun W=>runp14 m B W hB
  rw [show vUE m B=0 from if_pos h1,show vUD m B=vM (fD m) B from if_pos h1] at c40
  exact rci_y m t d B w _ _ _ _ _ _ _ _ c8 c14 c10 c40 (fun W=>into10_v h2 h3 (fD_ok m) (vM_is (fD_ok m) B) W)
 ·rw [if_neg h,if_neg h,if_neg h]
  refine rci_n m t d B w _ _ _ ?_ c8 c14 c10
  by_cases a1:goodD m B
  ·by_cases a2:binN t
   ·have a3:¬ knB d:=fun a3=>h ⟨a1,a2,a3⟩
    rw [decide_eq_false a3,Bool.and_false]
   ·rw [decide_eq_false a2,Bool.and_false,Bool.false_and]
  ·rw [decide_eq_false a1,Bool.false_and,Bool.false_and]
end
section
structure CrnC (TT:World->Prop):Prop where
 next:∀ w w',TT w->Below w.heap.size w w'->TT w'
 cv:∀ m t d Bp W,Bp<2^256->TT W->CB 9 #[.int .i64 m,.int .i64 t,.int .i64 d,A4 Bp] W (.tuple #[A4 (xiV m t d Bp),.int .i64 (xiF m t d Bp),.int .i64 (xiE m t d Bp)])
theorem one_ld:ld 1 1=0:=by
 have e3:bl 1=1:=bl_eq (by decide) (by decide)
 unfold ld
 rw [e3]
 decide
theorem one_X:rX 3 1 1 0=0:=by unfold rX;rw [one_ld];decide
theorem one_Q:rQ 3 1 1 0=-23:=by unfold rQ;rw [one_ld,one_X];decide
theorem one_C:rC 3 0 false 1 1 0=8388608:=by unfold rC;rw [one_X,one_Q];decide
theorem one_bl:bl 8388608=24:=bl_eq (by decide) (by decide)
theorem one_V:rdV 3 0 false 1 1 0=1065353216:=by
 unfold rdV rQ' rC'
 rw [one_C,one_bl,one_Q]
 decide
theorem one_F:rdF 3 0 false 1 1 0=0:=by
 unfold rdF rQ'
 rw [one_C,one_bl,one_Q,one_X,one_ld]
 decide
theorem awk18_T:xiV 10 3 0 575668225=1065353216/\xiF 10 3 0 575668225=0/\xiE 10 3 0 575668225=0:=by
 have hg:xiG 10 3 0 575668225:=⟨by decide,by decide,by decide⟩
 unfold xiV xiF xiE
 rw [if_pos hg,if_pos hg,if_pos hg]
 have hu:vM (fD 10) 575668225=⟨1,false,false,0,1⟩:=by kernel_rfl
 rw [hu]
 exact ⟨one_V,one_F,rfl⟩
theorem awk18_W:(W4 575668225 0=575668225/\W4 575668225 1=0/\W4 575668225 2=0/\W4 575668225 3=0)/\(W4 1065353216 0=1065353216/\W4 1065353216 1=0/\W4 1065353216 2=0/\W4 1065353216 3=0):=⟨⟨by decide,by decide,by decide,by decide⟩,⟨by decide,by decide,by decide,by decide⟩⟩
attribute [local irreducible] W4
theorem awake18 {TT:World->Prop}(h:CrnC TT)(w:World)(hT:TT w):CB 8 #[] w (.bool true):=by
 have c9:=fun W hW=>h.cv 10 3 0 575668225 W (by decide) hW
 obtain ⟨e1,e2,e4⟩:=awk18_T
 obtain ⟨⟨w0,w1,w2,w3⟩,u0,u1,u2,u3⟩:=awk18_W
 have e3:=eq24 1065353216 0 0 0 1065353216 0 0 0
 rw [decide_eq_true ⟨rfl,rfl,rfl,rfl⟩] at e3
 rw [e1,e2,e4] at c9
 unfold A4 at c9
 rw [w0,w1,w2,w3,u0,u1,u2,u3] at c9
 clear w0 w1 w2 w3 u0 u1 u2 u3 e1 e2 e4
 have hsm:=cell_set_map
 go_enter Tryz.func8,Tryz.ntmps8
 go_wp2_with (go_at_call 9;refine (c9 _ (h.next _ _ hT bgo)).mono ?_;rintro r w1 ⟨rfl,hb1⟩;obtain ⟨_,_,hA1,_⟩:=wf w hb1;clear hb1)
 go_ret
 exact ⟨by first|rfl|simp,bgo⟩
section
variable (TT:World->Prop)(hTT:∀ w w',TT w->Below w.heap.size w w'->TT w')(w:World)(hT:TT w)
 (c8:∀ W,TT W->CB 8 #[] W (.bool true))
variable (m t d:Int)(Bp:Nat)
include hTT hT c8
theorem cv18_w (C:Nat)(F E:Int)
  (c9:∀ W,TT W->CB 9 #[.int .i64 m,.int .i64 t,.int .i64 d,A4 Bp] W (.tuple #[A4 C,.int .i64 F,.int .i64 E]))
  (c10:∀ W,CB 10 #[.int .i64 m,.int .i64 t,.int .i64 d,A4 Bp] W (.tuple #[A4 C,.int .i64 F,.int .i64 E])) :
  CB 3 #[.int .i64 m,.int .i64 t,.int .i64 d,A4 Bp] w (.bool true):=by
 have hsm:=cell_set_map
 have e1:=eq24 (W4 C 0) (W4 C 1) (W4 C 2) (W4 C 3) (W4 C 0) (W4 C 1) (W4 C 2) (W4 C 3)
 rw [decide_eq_true ⟨rfl,rfl,rfl,rfl⟩] at e1
 unfold A4 at *
 go_enter Tryz.func3,Tryz.ntmps3
 go_wp2_with (first
  | (go_at_call 8;refine (c8 _ (hTT _ _ hT bgo)).mono ?_;rintro r w1 ⟨rfl,hb1⟩;obtain ⟨_,_,_,_,hA1,_⟩:=wz w hb1;clear hb1)
  | (go_at_call 9;refine (c9 _ (hTT _ _ hT bgo)).mono ?_;rintro r w2 ⟨rfl,hb2⟩;obtain ⟨_,_,_,_,hA2,_⟩:=wz w hb2;clear hb2)
  | (go_at_call 10;refine (c10 _).mono ?_;rintro r w3 ⟨rfl,hb3⟩;obtain ⟨_,_,_,_,hA3,_⟩:=wz w hb3;obtain ⟨_,_⟩:=zf hb3 w2.heap.size;clear hb3))
 go_ret
 exact ⟨by first|rfl|simp,bgo⟩
theorem tw18_n (b1 b2 b3:Bool)(hn:(b1&&b2&&b3)=false)
  (c15:∀ W,CB 20 #[.int .i64 m,A4 Bp] W (.bool b1))
  (c14:∀ W,CQ 12 #[.int .i64 t] W (.bool b2))
  (c10:∀ W,CQ 13 #[.int .i64 d] W (.bool b3)) :
  CB 5 #[.int .i64 m,.int .i64 t,.int .i64 d,A4 Bp] w (.bool true):=by
 have hsm:=cell_set_map
 unfold A4 at *
 cases b1<;>cases b2<;>cases b3<;>simp only [Bool.and_self,Bool.and_true,Bool.and_false,Bool.true_and,Bool.false_and,Bool.true_eq_false] at hn
 all_goals (
  clear hn
  go_enter Tryz.func5,Tryz.ntmps5
  go_wp2_with (first
   | (have:=hA2;go_at_call 8;refine (c8 _ (hTT _ _ hT bgo)).mono ?_;rintro r w4 ⟨rfl,hb4⟩;obtain ⟨_,_,_,_,hA4,_⟩:=wz w hb4;clear hb4)
   | (go_at_call 8;refine (c8 _ (hTT _ _ hT bgo)).mono ?_;rintro r w1 ⟨rfl,hb1⟩;obtain ⟨_,_,_,_,hA1,_⟩:=wz w hb1;clear hb1)
   | (go_at_call 20;refine (c15 _).mono ?_;rintro r w2 ⟨rfl,hb2⟩;obtain ⟨_,_,_,_,hA2,_⟩:=wz w hb2;clear hb2)
   | (go_at_call 12;refine (c14 _).mono ?_;rintro r w3 ⟨rfl,rfl⟩)
   | (go_at_call 13;refine (c10 _).mono ?_;rintro r w3 ⟨rfl,rfl⟩))
  go_ret
  exact ⟨by first|rfl|simp,bgo⟩)
variable (c15:∀ W,CB 20 #[.int .i64 m,A4 Bp] W (.bool true))
 (c14:∀ W,CQ 12 #[.int .i64 t] W (.bool true))
 (c10:∀ W,CQ 13 #[.int .i64 d] W (.bool true))
include c15 c14 c10
theorem tw18_y (o:Int)(hon:(o==m)=false)(C V:Nat)(F:Int)
  (c9:∀ W,TT W->CB 21 #[.int .i64 m] W (.tuple #[.int .i64 o,.int .i64 0]))
  (c11:∀ W,TT W->CB 22 #[.int .i64 m,A4 Bp] W (.tuple #[A4 C,.int .i64 0]))
  (c12:∀ W,TT W->CB 9 #[.int .i64 m,.int .i64 t,.int .i64 d,A4 Bp] W (.tuple #[A4 V,.int .i64 F,.int .i64 0]))
  (c13:∀ W,TT W->CB 9 #[.int .i64 o,.int .i64 t,.int .i64 d,A4 C] W (.tuple #[A4 V,.int .i64 F,.int .i64 0])) :
  CB 5 #[.int .i64 m,.int .i64 t,.int .i64 d,A4 Bp] w (.bool true):=by
 have hsm:=cell_set_map
 have e1:=eq24 (W4 V 0) (W4 V 1) (W4 V 2) (W4 V 3) (W4 V 0) (W4 V 1) (W4 V 2) (W4 V 3)
 rw [decide_eq_true ⟨rfl,rfl,rfl,rfl⟩] at e1
 unfold A4 at *
 go_enter Tryz.func5,Tryz.ntmps5
 go_wp2_with (first
  | (go_at_call 8;refine (c8 _ (hTT _ _ hT bgo)).mono ?_;rintro r w1 ⟨rfl,hb1⟩;obtain ⟨_,_,_,_,hA1,_⟩:=wz w hb1;clear hb1)
  | (go_at_call 20;refine (c15 _).mono ?_;rintro r w2 ⟨rfl,hb2⟩;obtain ⟨_,_,_,_,hA2,_⟩:=wz w hb2;clear hb2)
  | (go_at_call 12;refine (c14 _).mono ?_;rintro r w3 ⟨rfl,rfl⟩)
  | (go_at_call 13;refine (c10 _).mono ?_;rintro r w3 ⟨rfl,rfl⟩)
  | (go_at_call 21;refine (c9 _ (hTT _ _ hT bgo)).mono ?_;rintro r w4 ⟨rfl,hb4⟩;obtain ⟨_,_,_,_,hA4,_⟩:=wz w hb4;clear hb4)
  | (go_at_call 22;refine (c11 _ (hTT _ _ hT bgo)).mono ?_;rintro r w5 ⟨rfl,hb5⟩;obtain ⟨_,_,_,_,hA5,_⟩:=wz w hb5;clear hb5)
  | (have:=hA6;go_at_call 9;refine (c13 _ (hTT _ _ hT bgo)).mono ?_;rintro r w7 ⟨rfl,hb7⟩;obtain ⟨_,_,_,_,hA7,_⟩:=wz w hb7;obtain ⟨_,_⟩:=zf hb7 w5.heap.size;obtain ⟨_,_⟩:=zf hb7 w6.heap.size;clear hb7)
  | (go_at_call 9;refine (c12 _ (hTT _ _ hT bgo)).mono ?_;rintro r w6 ⟨rfl,hb6⟩;obtain ⟨_,_,_,_,hA6,_⟩:=wz w hb6;obtain ⟨_,_⟩:=zf hb6 w5.heap.size;clear hb6))
 go_ret
 exact ⟨by first|rfl|simp,bgo⟩
variable (c x:Int)(s g ok:Bool)(k:Nat)
 (c21:∀ W,CB 23 #[.int .i64 m,A4 Bp] W (.tuple #[DV c s g x k,.bool ok,.int .i64 0]))
include c21
end
theorem xi_not {m t d:Int}{Bp:Nat}(h:¬ xiG m t d Bp):(decide (goodD m Bp)&&decide (binN t)&&decide (knB d))=false:=by
 by_cases a1:goodD m Bp
 ·by_cases a2:binN t
  ·have a3:¬ knB d:=fun a3=>h ⟨a1,a2,a3⟩
   rw [decide_eq_false (p:=knB d) a3,Bool.and_false]
  ·rw [decide_eq_false (p:=binN t) a2,Bool.and_false,Bool.false_and]
 ·rw [decide_eq_false (p:=goodD m Bp) a1,Bool.false_and,Bool.false_and]
section
variable {TT:World->Prop}(h:CrnC TT)(m t d:Int)(Bp:Nat)(w:World)(hT:TT w)(hB:Bp<2^256)
include h hT hB
theorem converts18_v:CB 3 #[.int .i64 m,.int .i64 t,.int .i64 d,A4 Bp] w (.bool true) :=
 cv18_w TT h.next w hT (fun W hW=>awake18 h W hW) m t d Bp _ _ _ (fun W hW=>h.cv m t d Bp W hB hW) (fun W=>rconv18 m t d Bp W hB)
theorem twins18_v (hR:TrcC TT):CB 5 #[.int .i64 m,.int .i64 t,.int .i64 d,A4 Bp] w (.bool true):=by
 have c8:=fun W hW=>awake18 h W hW
 have c15:=fun W=>rgood14 m Bp hB W
 have c14:∀ W,CQ 12 #[.int .i64 t] W (.bool (decide (binN t))):=fun W=>(rbinary_any t W).mono fun r w' h=>⟨h.1,h.2.symm⟩
 have c10:=fun W=>rdir_any d W
 by_cases hg:xiG m t d Bp
 ·obtain ⟨h1,h2,h3⟩:=id hg
  rw [decide_eq_true h1] at c15
  rw [decide_eq_true h2] at c14
  rw [decide_eq_true h3] at c10
  obtain ⟨g1,g2,g3⟩:=tc_good h1
  have hg':xiG (twN m) t d (tcV m Bp):=⟨g1,h2,h3⟩
  have c9:=fun W hW=>hR.tw m W hW
  have c11:=fun W hW=>hR.cd m Bp W hB hW
  have c12:=fun W hW=>h.cv m t d Bp W hB hW
  have c13:=fun W hW=>h.cv (twN m) t d (tcV m Bp) W g3 hW
  rw [show vUE m Bp=0 from if_pos h1] at c11
  rw [show twV m=twN m from if_pos h1.1,show twE m=0 from if_pos h1.1] at c9
  rw [show xiV m t d Bp=ciV t d (vM (fD m) Bp) from if_pos hg,show xiF m t d Bp=ciF t d (vM (fD m) Bp) from if_pos hg,show xiE m t d Bp=0 from if_pos hg] at c12
  rw [show xiV (twN m) t d (tcV m Bp)=ciV t d (vM (fD (twN m)) (tcV m Bp)) from if_pos hg',show xiF (twN m) t d (tcV m Bp)=ciF t d (vM (fD (twN m)) (tcV m Bp)) from if_pos hg',show xiE (twN m) t d (tcV m Bp)=0 from if_pos hg',g2] at c13
  exact tw18_y TT h.next w hT c8 m t d Bp c15 c14 c10 _ (tw_ne h1.1) _ _ _ c9 c11 c12 c13
 ·exact tw18_n TT h.next w hT c8 m t d Bp _ _ _ (xi_not hg) c15 c14 c10
end
end
section
theorem vT_256 {f:DF}(h:f.ok){R:Nat}(hR:R<2^f.t):vT f R<2^128:=by
 have hw:=h.w12
 have:=ten_128 h
 cases hd:f.dn
 ·unfold vT;rw [hd,if_neg (by decide)];exact Nat.lt_of_lt_of_le hR (Nat.pow_le_pow_right (by decide) (by omega))
 ·exact Nat.lt_trans (vT_lt h hd R) this.2
theorem vL_9 {f:DF}(dn:Bool)(w G:Nat):vL dn w G<=9:=by
 unfold vL
 cases dn<;>simp only [Bool.false_eq_true,if_false,if_true]<;>split<;>omega
theorem dsgn_ge (A B:Nat):0<=sgn (A:Int) (B:Int)↔¬ A<B:=by
 unfold sgn
 by_cases h:(A:Int)<(B:Int)
 ·rw [if_pos h];constructor
  ·intro q;exact absurd q (by decide)
  ·intro q;omega
 ·rw [if_neg h];constructor
  ·intro _;omega
  ·intro _;split<;>decide
section
variable {f:DF}(h:f.ok)
include h
theorem fmean (B:Nat)(w:World)(hB:B<2^256):Calls Tryz.prog 57 #[LF f,A4 B] w fun r w'=>r=.returned (vM f B).v/\Below w.heap.size w w':=by
 have hw:=h.w12
 have hG:=vG_lt f B
 have hR:=vR_lt f B
 have cs:=fun W=>fsplit h B W hB
 have ck:=fun W=>fkind h (vG f B) W hG
 have cr:=fun W=>fread h (vR f B) W hR
 have hU:=vT_256 h hR
 have h10:=ten_128 h
 have e256:(2:Nat)^128*2^4<2^256:=by decide
 unfold vM vD
 generalize vG f B=G at *
 generalize vR f B=R at *
 generalize vS f B=s at *
 by_cases h30:vV f.w G=30
 ·rw [if_pos h30]
  exact dmean_i _ _ _ _ _ _ _ _ _ w B R s (G:Int) _ cs ck (by rw [h30];rfl)
 ·rw [if_neg h30]
  have e30:(((vV f.w G:Nat):Int)==30)=false:=by rw [show (30:Int)=((30:Nat):Int) from rfl,beq_dec];exact decide_eq_false h30
  by_cases h31:vV f.w G=31
  ·rw [if_pos h31]
   exact dmean_n _ _ _ _ _ _ _ _ _ w B R s (G:Int) _ cs ck (vT f R) _ cr _ e30 (by rw [h31];rfl) (fun W=>fsig h G W hG) (fun W=>nought_v (vT f R) (10^(3*f.j)) W (by omega) (by omega))
  ·rw [if_neg h31]
   have e31:(((vV f.w G:Nat):Int)==31)=false:=by rw [show (31:Int)=((31:Nat):Int) from rfl,beq_dec];exact decide_eq_false h31
   have hL:=vL_9 (f:=f) f.dn f.w G
   have hq:=vQ_256 h
   have hm:vL f.dn f.w G*vQ f<=2^4*2^128:=Nat.mul_le_mul (by omega) (by omega)
   have cm:=fun W=>mul4 (vQ f) (vL f.dn f.w G) W (by omega) (by omega)
   rw [Nat.mul_comm (vQ f)] at cm
   have hF:vF f.dn f.w G<1000000:=by
    unfold vF vV
    rcases h with ⟨h1,h2,h3,h4⟩|⟨h1,h2,h3,h4⟩|⟨h1,h2,h3,h4⟩<;>rw [h2] at hG ⊢<;>cases f.dn<;>simp only [Bool.false_eq_true,if_false,if_true]<;>simp only [Nat.reducePow,Nat.reduceAdd] at*<;> split<;>omega
   have hl:-1000000<=f.l/\f.l<=1000000:=by rcases h with ⟨h1,h2,h3,h4⟩|⟨h1,h2,h3,h4⟩|⟨h1,h2,h3,h4⟩<;>omega
   have e5:(2:Nat)^4*2^128+2^128<2^256:=by decide
   exact dmean_f _ _ _ _ _ _ _ _ _ w B R s (G:Int) _ cs ck (vT f R) _ cr _ _ _ _ _ _ e30 e31 (by omega) (by omega) hl.1 hl.2 (fun W=>fpart h G W hG) cm (fun W=>add4 _ _ W (by omega) (by omega)) (fun W=>nought_v _ (10^(3*f.j+1)) W (by omega) (by omega))
theorem fpack (d:Dat)(w:World)(hk:d.k<2^256):CB 58 #[LF f,d.v] w (.tuple #[A4 (if vI f d then vP f d else 0),.int .i64 (if vI f d then 0 else 3)]):=by
 have hw:=h.w12
 have h10:=ten_128 h
 have hq:=vQ_256 h
 have e256:(2:Nat)^128<2^256:=by decide
 have hl:-1000000<=f.l/\f.l<=0:=by rcases h with ⟨h1,h2,h3,h4⟩|⟨h1,h2,h3,h4⟩|⟨h1,h2,h3,h4⟩<;>omega
 have hw3:(3*2^f.w:Nat)<=3*2^12:=Nat.mul_le_mul (Nat.le_refl _) (Nat.pow_le_pow_right (by decide) (by omega))
 have ei:((3*2^f.w:Nat):Int)=3*2^f.w:=by rw [Int.natCast_mul,i2pow];rfl
 obtain ⟨c,s,g,x,k⟩:=d
 simp only at hk
 by_cases h1:c=1
 ·subst h1
  refine dpack_1 _ _ _ _ _ _ _ _ _ w x s g k _ _ ?_
  intro W
  by_cases hi:vI f ⟨1,s,g,x,k⟩
  ·rw [if_pos hi,if_pos hi]
   have hPG:=vPG_lt h hi
   have hPR:=vPR_lt h hi
   obtain ⟨_,hg,hk10,hx0,hx1⟩:(1:Int)=1/\g=false/\k<10^(3*f.j+1)/\f.l<=x/\x<=f.l+3*2^f.w-1:=by
    rcases hi with hi|hi|hi
    ·exact hi
    ·exact absurd (show (1:Int)=2 from hi.1) (by decide)
    ·exact absurd (show (1:Int)=3 from hi.1) (by decide)
   subst hg
   have hqp:0<vQ f:=by
    unfold vQ;cases f.dn<;>simp only [Bool.false_eq_true,if_false,if_true]
    ·exact Nat.two_pow_pos _
    ·exact Nat.pow_pos (by decide)
   have hm9:k/vQ f<=9:=by
    unfold vQ
    rcases h with ⟨h1,h2,h3,h4⟩|⟨h1,h2,h3,h4⟩|⟨h1,h2,h3,h4⟩<;>rw [h3] at hk10 ⊢<;>rw [h1]<;>cases f.dn<;>simp only [Bool.false_eq_true,if_false,if_true]<;>simp only [Nat.reducePow,Nat.reduceAdd,Nat.reduceMul] at*<;> omega
   have hmod:k-k/vQ f*vQ f=k%vQ f:=by have:=Nat.div_add_mod' k (vQ f);omega
   have hlt:=Nat.mod_lt k hqp
   have hE:(x-f.l).toNat<3*2^f.w:=by omega
   have hEi:x-f.l=(((x-f.l).toNat:Nat):Int):=by omega
   have cn:=fun W=>funite h (x-f.l).toNat (k/vQ f) W hE hm9
   rw [← hEi] at cn
   have hvN:vPG f ⟨1,s,false,x,k⟩=vN f.dn f.w (x-f.l).toNat (k/vQ f):=rfl
   rw [← hvN] at cn
   have hR0:∀ i,k-i*vQ f<2^256:=fun i=>by omega
   have cw:=fun W=>fwrite h (k-k/vQ f*vQ f) W (hR0 _) (fun hd=>by
    rw [hmod,← ten3]
    have:vQ f=10^(3*f.j):=by unfold vQ;rw [hd,if_pos rfl]
    rw [this] at hlt ⊢
    exact hlt)
   have ew:(if f.dn=true then dlP f.j (k-k/vQ f*vQ f) else k-k/vQ f*vQ f)=vPR f ⟨1,s,false,x,k⟩:=by
    rw [hmod]
    unfold vPR vQ
    simp only [show ¬ ((1:Int)=2) by decide,show ¬ ((1:Int)=3) by decide,if_false]
    cases f.dn<;>simp
   rw [ew] at cw
   have cj:=fun W=>fjoin h s _ _ W hPG hPR
   refine dfin_y _ _ _ _ _ _ _ _ _ W x s k _ _ (fun W=>cmp4 k _ W hk (by omega)) (by omega) (by omega) (by rw [dsgn_ge];omega) (k/vQ f) (by omega) (fun i=>k-i*vQ f) (fun i=>sgn ((k-i*vQ f:Nat):Int) (vQ f:Int)) (fun i=>if k-i*vQ f<vQ f then 1 else 0) (by simp) _ hl.1 (by omega) (by omega) _ ?_ ?_ ?_ ?_ cn cw cj
   ·show ∀ _,_
    intro i hi W
    exact cmp4 _ _ W (hR0 i) (by omega)
   ·show ∀ _,_
    intro i hi
    rw [dsgn_ge]
    have:(i+1)*vQ f<=k:=Nat.le_trans (Nat.mul_le_mul_right _ hi) (Nat.div_mul_le_self _ _)
    rw [Nat.add_mul,Nat.one_mul] at this
    omega
   ·show ¬ _
    rw [dsgn_ge,hmod];omega
   ·show ∀ _,_
    intro i hi W
    have:(i+1)*vQ f<=k:=Nat.le_trans (Nat.mul_le_mul_right _ hi) (Nat.div_mul_le_self _ _)
    have e:k-(i+1)*vQ f=k-i*vQ f-vQ f:=by rw [Nat.add_mul,Nat.one_mul];omega
    rw [Nat.add_mul,Nat.one_mul] at this
    have c:=sub4 (k-i*vQ f) (vQ f) W (hR0 i) (by omega)
    rw [A4_sub (by omega),← e] at c
    exact c
  ·rw [if_neg hi,if_neg hi]
   cases g
   ·by_cases a1:x<f.l
    ·exact dfin_l _ _ _ _ _ _ _ _ _ W x s k a1
    ·by_cases a2:f.l+3*2^f.w-1<x
     ·exact dfin_m _ _ _ _ _ _ _ _ _ W x s k a1 a2
     ·have a3:¬ k<10^(3*f.j+1):=fun q=>hi (Or.inl ⟨rfl,rfl,q,(by omega:f.l<=x),(by omega:x<=f.l+3*2^f.w-1)⟩)
      exact dfin_k _ _ _ _ _ _ _ _ _ W x s k _ (fun W=>cmp4 k _ W hk (by omega)) a1 a2 ((dsgn_ge _ _).2 a3)
   ·exact dfin_s _ _ _ _ _ _ _ _ _ W x s k
 ·by_cases h2:c=2
  ·subst h2
   refine dpack_2 _ _ _ _ _ _ _ _ _ w x s g k _ _ ?_
   intro W
   by_cases hi:vI f ⟨2,s,g,x,k⟩
   ·rw [if_pos hi,if_pos hi]
    have hPG:=vPG_lt h hi
    obtain ⟨_,hg,hk0,hx0⟩:(2:Int)=2/\g=false/\k=0/\x=0:=by
     rcases hi with hi|hi|hi
     ·exact absurd (show (2:Int)=1 from hi.1) (by decide)
     ·exact hi
     ·exact absurd (show (2:Int)=3 from hi.1) (by decide)
    subst hg hk0 hx0
    have cp:=fun W=>fspec h 30 false W (by decide)
    have cj:=fun W=>fjoin h s _ 0 W hPG (Nat.two_pow_pos _)
    rw [Z4_eq] at cj
    exact dinf_y _ _ _ _ _ _ _ _ _ W s _ _ cp cj
   ·rw [if_neg hi,if_neg hi]
    cases g
    ·by_cases a1:x=0
     ·subst a1
      refine dinf_k _ _ _ _ _ _ _ _ _ W s k (decide_eq_false fun q=>hi (Or.inr (Or.inl ⟨rfl,rfl,?_,rfl⟩)))
      refine A4_inj hk (by decide) fun i hi=>?_
      rw [W4_zero]
      rcases (show i=0∨i=1∨i=2∨i=3 by omega) with e|e|e|e<;>subst e
      ·exact q.1
      ·exact q.2.1
      ·exact q.2.2.1
      ·exact q.2.2.2
     ·exact dinf_x _ _ _ _ _ _ _ _ _ W x s k (by simp [a1])
    ·exact dinf_s _ _ _ _ _ _ _ _ _ W x s k
  ·by_cases h3:c=3
   ·subst h3
    refine dpack_3 _ _ _ _ _ _ _ _ _ w x s g k _ _ ?_
    intro W
    by_cases hi:vI f ⟨3,s,g,x,k⟩
    ·rw [if_pos hi,if_pos hi]
     have hPG:=vPG_lt h hi
     have hPR:=vPR_lt h hi
     obtain ⟨_,hx0,hk10⟩:(3:Int)=3/\x=0/\k<10^(3*f.j):=by
      rcases hi with hi|hi|hi
      ·exact absurd (show (3:Int)=1 from hi.1) (by decide)
      ·exact absurd (show (3:Int)=2 from hi.1) (by decide)
      ·exact hi
     subst hx0
     have cp:=fun W=>fspec h 31 g W (by decide)
     have cw:=fun W=>fwrite h k W hk (fun _=>by rw [← ten3];exact hk10)
     have cj:=fun W=>fjoin h s _ _ W hPG hPR
     exact dnan_y _ _ _ _ _ _ _ _ _ W s g k _ _ _ (fun W=>cmp4 k _ W hk (by omega)) _ (by rw [dsgn_ge];omega) cp cw cj
    ·rw [if_neg hi,if_neg hi]
     by_cases a1:x=0
     ·subst a1
      have a3:¬ k<10^(3*f.j):=fun q=>hi (Or.inr (Or.inr ⟨rfl,rfl,q⟩))
      exact dnan_k _ _ _ _ _ _ _ _ _ W s g k _ (fun W=>cmp4 k _ W hk (by omega)) ((dsgn_ge _ _).2 a3)
     ·exact dnan_x _ _ _ _ _ _ _ _ _ W x s g k (by simp [a1])
   ·have hi:¬ vI f ⟨c,s,g,x,k⟩:=by
     rintro (q|q|q)
     ·exact h1 q.1
     ·exact h2 q.1
     ·exact h3 q.1
    rw [if_neg hi,if_neg hi]
    exact dpack_0 _ _ _ _ _ _ _ _ _ w c x s g k (by simp [h1]) (by simp [h2]) (by simp [h3])
end
end
section
attribute [local irreducible] W4
theorem vU_good {n:Int}{B:Nat}(h:goodD n B):vUD n B=vM (fD n) B/\vUC n B=decide (vP (fD n) (vM (fD n) B)=B)/\vUE n B=0:=by
 unfold vUD vUC vUE
 exact ⟨if_pos h,decide_eq_decide.2 ⟨fun q=>q.2,fun q=>⟨h,q⟩⟩,if_pos h⟩
theorem vU_bad {n:Int}{B:Nat}(h:¬ goodD n B):vUD n B=⟨0,false,false,0,0⟩/\vUC n B=false/\vUE n B=1:=by
 unfold vUD vUC vUE
 exact ⟨if_neg h,decide_eq_false fun q=>h q.1,if_neg h⟩
end
theorem layof_ok (n:Int)(w:World)(hT:Tab w)(hd:decN n):CB 80 #[.int .i64 n] w (.tuple #[LF (fD n),.int .i64 0]):=by
 obtain ⟨hok,f1,f2,f3,f4,f5,f6,f7,f8⟩:=dec_fields hd
 have c1:=fun W hW=>ofv_any n W hW
 rw [show infoE n=0 from if_pos hok,f1,f2,f3,f4,f5,f6,f7,f8] at c1
 have h:=fD_ok n
 have hw:=h.w12
 generalize fD n=f at *
 have hG:((f.t+(f.w+6):Nat):Int)/16+9=((f.w+5:Nat):Int):=by rcases h with ⟨h1,h2,h3,h4⟩|⟨h1,h2,h3,h4⟩|⟨h1,h2,h3,h4⟩<;>rw [h1,h2]<;>rfl
 have cc:=fun W=>dten_v (3*f.j+1) W (by omega)
 have cp:=fun W=>dten_v (3*f.j) W (by omega)
 have e1:((3*f.j+1:Nat):Int)=3*(f.j:Int)+1:=by omega
 have e2:((3*f.j:Nat):Int)=3*(f.j:Int):=by omega
 have cw:=cp
 rw [e1] at cc
 rw [e2] at cp
 unfold LF
 cases e:f.dn
 ·rw [e] at c1
  have eB:vB f=0:=by unfold vB;rw [e,if_neg (by decide)]
  have eQ:vQ f=2^f.t:=by unfold vQ;rw [e,if_neg (by decide)]
  have cs:=fun W=>shl4 1 f.t W (by decide) (by omega)
  rw [Nat.one_mul] at cs
  rw [eB,eQ]
  exact dlay_p n _ n _ _ _ _ _ _ w hT _ _ _ _ (by omega) (by omega) hG (by omega) (by omega) (by omega) (by omega) (by omega) cc cp _ c1 (fun W=>of4 1 W (by decide)) cs
 ·rw [e] at c1
  have eB:vB f=f.w:=by unfold vB;rw [e,if_pos rfl]
  have eQ:vQ f=10^(3*f.j):=by unfold vQ;rw [e,if_pos rfl]
  rw [eB,eQ]
  rw [show ((3*f.j:Nat):Int)=3*(f.j:Int)+1-1 by omega] at cw
  exact dlay_d n _ n _ _ _ _ _ _ w hT _ _ _ _ (by omega) (by omega) hG (by omega) (by omega) (by omega) (by omega) (by omega) cc cp _ _ (by omega) (by omega) (by omega) c1 cw
theorem not_dec {n:Int}(h:¬ decN n):(okN n/\(baseN n != 10)=true)∨¬ okN n:=by
 by_cases hk:okN n
 ·left
  refine ⟨hk,?_⟩
  unfold decN at h
  rcases okN_cases hk with rfl|rfl|rfl|rfl|rfl|rfl|rfl|rfl|rfl|rfl|rfl|rfl<;>first|rfl|omega
 ·exact Or.inr hk
theorem layof_bad (n:Int)(w:World)(hT:Tab w)(hd:¬ decN n):CB 80 #[.int .i64 n] w (.tuple #[ZL,.int .i64 1]):=by
 have c1:=fun W hW=>ofv_any n W hW
 rcases not_dec hd with ⟨hk,hb⟩|hk
 ·rw [show infoE n=0 from if_pos hk] at c1
  exact dlay_b n _ _ _ _ _ _ _ _ _ _ w hT hb c1
 ·rw [show infoE n=1 from if_neg hk] at c1
  exact dlay_e n _ _ _ _ _ _ _ _ _ _ w hT 1 rfl c1
theorem fits_dec {n:Int}(B:Nat)(hd:decN n):(okN n/\B<2^(widthN n).toNat)↔goodD n B:=by
 have hF:=dec_fields hd
 rw [hF.2.2.2.1,Int.toNat_natCast]
 exact ⟨fun h=>⟨hd,h.2⟩,fun h=>⟨hF.1,h.2⟩⟩
theorem layfor_ok (n:Int)(B:Nat)(w:World)(hT:Tab w)(hB:B<2^256)(hg:goodD n B):CB 56 #[.int .i64 n,A4 B] w (.tuple #[LF (fD n),.int .i64 0]):=by
 have c1:=fun W hW=>fits4 n B hB W hW
 rw [decide_eq_true ((fits_dec B hg.1).2 hg)] at c1
 exact dfor_y n B w hT c1 _ _ _ _ _ _ _ _ _ (fun W hW=>layof_ok n W hW hg.1)
theorem layfor_bad (n:Int)(B:Nat)(w:World)(hT:Tab w)(hB:B<2^256)(hg:¬ goodD n B):CB 56 #[.int .i64 n,A4 B] w (.tuple #[ZL,.int .i64 1]):=by
 have c1:=fun W hW=>fits4 n B hB W hW
 by_cases hd:decN n
 ·rw [decide_eq_false (fun q=>hg ((fits_dec B hd).1 q))] at c1
  exact dfor_n n B w hT c1
 ·by_cases hf:okN n/\B<2^(widthN n).toNat
  ·rw [decide_eq_true hf] at c1
   exact dfor_b n B w hT c1 (fun W hW=>layof_bad n W hW hd)
  ·rw [decide_eq_false hf] at c1
   exact dfor_n n B w hT c1
theorem dpack14 (n:Int)(d:Dat)(hk:d.k<2^256)(W:World)(hT:Tab W):CB 48 #[.int .i64 n,d.v] W (.tuple #[A4 (vPV n d),.int .i64 (vPE n d)]):=by
 unfold vPV vPE
 by_cases hd:decN n
 ·have c2:=fun W=>fpack (fD_ok n) d W hk
  have e1:(if decN n/\vI (fD n) d then vP (fD n) d else 0)=(if vI (fD n) d then vP (fD n) d else 0):=by
   by_cases hi:vI (fD n) d
   ·rw [if_pos ⟨hd,hi⟩,if_pos hi]
   ·rw [if_neg (fun q=>hi q.2),if_neg hi]
  rw [e1,if_pos hd]
  exact dpck14_y n W hT _ _ _ _ _ _ _ _ _ _ _ _ _ _ _ _ (fun W hW=>layof_ok n W hW hd) c2
 ·rw [if_neg (fun q=>hd q.1),if_neg hd]
  exact dpck14_n n W hT _ _ _ _ _ (fun W hW=>layof_bad n W hW hd)
theorem dunpk14 (n:Int)(B:Nat)(hB:B<2^256)(W:World)(hT:Tab W):CB 28 #[.int .i64 n,A4 B] W (.tuple #[(vUD n B).v,.bool (vUC n B),.int .i64 (vUE n B)]):=by
 by_cases hg:goodD n B
 ·obtain ⟨e1,e2,e3⟩:=vU_good hg
  rw [e1,e2,e3]
  have h:=fD_ok n
  have c3:=fun W=>fpack h (vM (fD n) B) W (vM_256 h B)
  rw [if_pos (vM_is h B),if_pos (vM_is h B)] at c3
  refine dunp_y n W hT _ _ _ _ _ _ _ _ _ B (fun W hW=>layfor_ok n B W hW hB hg) _ _ _ _ _ _ _ (fun W=>fmean h B W hB) c3 _ ?_
  exact eq_words (vP_256 h (vM_is h B)) hB
 ·obtain ⟨e1,e2,e3⟩:=vU_bad hg
  rw [e1,e2,e3,zero_v]
  exact dunp_n n W hT B (fun W hW=>layfor_bad n B W hW hB hg)
section
attribute [local irreducible] W4 Nz Nt NT
section
variable (t d c x:Int)(s g:Bool)(k:Nat)(hk:k<2^256)(P R:Nat)(F E:Int)(w:World)(hT:Tab w)(hxb:-20000<=x/\x<=20000)
include hk hT hxb
theorem crd_n (hx:x<0)
  (c61:∀ W k,k=-x->Calls Tryz.prog 61 #[.int .i64 5,.int .i64 k] W fun r w'=>∃ v,r=.returned (.tuple #[v,.int .i64 0])/\Nt 2001 P v w'/\Below W.heap.size W w')
  (c63:∀ W v v',Tab W->Nt 4 k v W->Nt 2001 P v' W->CB 63 #[.int .i64 t,.int .i64 d,.bool s,v,v',.int .i64 x] W (.tuple #[A4 R,.int .i64 F,.int .i64 E])) :
  CB 30 #[.int .i64 t,.int .i64 d,DV c s g x k] w (.tuple #[A4 R,.int .i64 F,.int .i64 E]):=by
 have hbx:=fun W hW=>dat_box (w0:=w) (w:=W) (c:=c) (s:=s) (g:=g) (x:=x) (t:=38) hk hW
 have hsm:=cell_set_map
 go_enter Tryz.func30,Tryz.ntmps30
 go_wp2_with (first
  | (go_at_call 61;refine (c61 _ _ (by omega)).mono ?_;rintro r w1 ⟨v1,rfl,hv1,hb1⟩;have hv0:=hbx _ (bnx (bnx (below1 _ _) (below1 _ _)) hb1);obtain ⟨_,_,_,_,hA1,_⟩:=wz w hb1;obtain ⟨_,_⟩:=zf hb1 (w.heap.size+1);obtain ⟨_,_⟩:=zf hb1 (w.heap.size+1+1);clear hb1)
  | (go_at_call 63;refine (c63 _ _ _ (hT.go bgo) hv0 hv1).mono ?_;rintro r w2 ⟨rfl,hb2⟩;obtain ⟨_,_,_,_,hA2,_⟩:=wz w hb2;obtain ⟨_,_⟩:=zf hb2 (w.heap.size+1);obtain ⟨_,_⟩:=zf hb2 (w.heap.size+1+1);clear hb2))
 exact bodyPost_ret (v:=.tuple #[A4 R,.int .i64 F,.int .i64 E]) (by simp only [results,Tryz.results30];go_simp) rfl ⟨rfl,bgo⟩
theorem crd_p (hx:¬ x<0)
  (c61:∀ W,Calls Tryz.prog 61 #[.int .i64 5,.int .i64 x] W fun r w'=>∃ v,r=.returned (.tuple #[v,.int .i64 0])/\Nt 2001 P v w'/\Below W.heap.size W w')
  (c62:∀ W v v',Nt 4 k v W->Nt 2001 P v' W->Calls Tryz.prog 62 #[v,v'] W fun r w'=>∃ q,r=.returned (.tuple #[q,.int .i64 0])/\NT 2001 (k*P) q w'/\Below W.heap.size W w')
  (c63:∀ W v v',Tab W->NT 2001 (k*P) v W->NT 900 1 v' W->CB 63 #[.int .i64 t,.int .i64 d,.bool s,v,v',.int .i64 x] W (.tuple #[A4 R,.int .i64 F,.int .i64 E])) :
  CB 30 #[.int .i64 t,.int .i64 d,DV c s g x k] w (.tuple #[A4 R,.int .i64 F,.int .i64 E]):=by
 have hbx:=fun W hW=>dat_box (w0:=w) (w:=W) (c:=c) (s:=s) (g:=g) (x:=x) (t:=38) hk hW
 have hx0:0<=x:=by omega
 have hsm:=cell_set_map
 go_enter Tryz.func30,Tryz.ntmps30
 go_wp2_with (first
  | (go_at_call 61;refine (c61 _).mono ?_;rintro r w1 ⟨v1,rfl,hv1,hb1⟩;have hv0:=hbx _ (bnx (bnx (below1 _ _) (below1 _ _)) hb1);have hone:=NT.next (nt_oneB rfl) hb1;obtain ⟨_,_,_,_,hA1,_⟩:=wz w hb1;obtain ⟨_,_⟩:=zf hb1 (w.heap.size+1);obtain ⟨_,_⟩:=zf hb1 (w.heap.size+1+1);clear hb1)
  | (go_at_call 62;refine (c62 _ _ _ hv0 hv1).mono ?_;rintro r w2 ⟨v2,rfl,hv2,hb2⟩;have hone2:=hone.next hb2;obtain ⟨_,_,_,_,hA2,_⟩:=wz w hb2;obtain ⟨_,_⟩:=zf hb2 (w.heap.size+1);obtain ⟨_,_⟩:=zf hb2 (w.heap.size+1+1);clear hb2)
  | (go_at_call 63;refine (c63 _ _ _ (hT.go bgo) hv2 (by simpa using hone2)).mono ?_;rintro r w3 ⟨rfl,hb3⟩;obtain ⟨_,_,_,_,hA3,_⟩:=wz w hb3;obtain ⟨_,_⟩:=zf hb3 (w.heap.size+1);obtain ⟨_,_⟩:=zf hb3 (w.heap.size+1+1);clear hb3))
 exact bodyPost_ret (v:=.tuple #[A4 R,.int .i64 F,.int .i64 E]) (by simp only [results,Tryz.results30];go_simp) rfl ⟨rfl,bgo⟩
end
theorem crd_v {t d x:Int}(c:Int)(s g:Bool){k:Nat}(hk:k<2^256)(w:World)(hT:Tab w)(hb:binN t)(hd:knB d)(hx:-10000<=x/\x<=10000) :
  CB 30 #[.int .i64 t,.int .i64 d,DV c s g x k] w (.tuple #[A4 (rdV t d s (tN k x) (tD x) x),.int .i64 (rdF t d s (tN k x) (tD x) x),.int .i64 0]):=by
 have hA:bl k<=256:=bl_le.2 hk
 by_cases he:x<0
 ·have hm:=five_bl (-x).toNat
  have e1:tN k x=k:=by unfold tN;rw [show x.toNat=0 by omega,Nat.pow_zero,Nat.mul_one]
  have e2:tD x=5^(-x).toNat:=rfl
  rw [e1,e2]
  refine crd_n t d c x s g k hk (5^(-x).toNat) _ _ _ w hT (by omega) he (fun W j hj=>?_) (fun W v v' hT' hv hv'=>?_)
  ·have:=npow5 (-x).toNat W (by omega)
   rw [show (((-x).toNat:Nat):Int)=j by omega] at this
   exact this
  ·exact rnd_good t d x s hT' (hv.more (by decide)) hv' hb hd (Nat.pos_iff_ne_zero.1 (Nat.pow_pos (by decide))) (by omega) (by omega)
 ·have hm:=five_bl x.toNat
  have e1:tD x=1:=by unfold tD;rw [show (-x).toNat=0 by omega,Nat.pow_zero]
  have e2:tN k x=k*5^x.toNat:=rfl
  rw [e1,e2]
  have hbm:=bl_mul k (5^x.toNat)
  refine crd_p t d c x s g k hk (5^x.toNat) _ _ _ w hT (by omega) he (fun W=>?_) (fun W v v' hv hv'=>nmul_w (by decide) (by decide) hv hv' (by omega)) (fun W v v' hT' hv hv'=>?_)
  ·have:=npow5 x.toNat W (by omega)
   rw [show ((x.toNat:Nat):Int)=x by omega] at this
   exact this
  ·exact rnd_good t d x s hT' hv.nt (hv'.nt.more (by decide)) hb hd (by decide) (by omega) (by decide)
section
variable (m t d c x:Int)(s g ok:Bool)(k B:Nat)(I:Value)(w:World)(hT:Tab w)
include hT
theorem cvi_e1
  (c1:∀ W,Tab W->CB 28 #[.int .i64 m,A4 B] W (.tuple #[DV c s g x k,.bool ok,.int .i64 1])) :
  CB 9 #[.int .i64 m,.int .i64 t,.int .i64 d,A4 B] w (.tuple #[A4 0,.int .i64 0,.int .i64 1]):=by
 rw [Z4_eq]
 have hsm:=cell_set_map
 go_enter Tryz.func9,Tryz.ntmps9
 go_wp2_with (first
  | (go_at_call 28;refine (c1 _ (hT.go bgo)).mono ?_;rintro r w1 ⟨rfl,hb1⟩;obtain ⟨_,_,_,_,hA1,_⟩:=wz w hb1;obtain ⟨_,_⟩:=zf hb1 (w.heap.size+1);clear hb1))
 exact bodyPost_ret (by simp only [results,Tryz.results9];go_simp) rfl ⟨rfl,bgo⟩
variable (c1:∀ W,Tab W->CB 28 #[.int .i64 m,A4 B] W (.tuple #[DV c s g x k,.bool ok,.int .i64 0]))
include c1
theorem cvi_e2
  (c2:∀ W,Tab W->CB 29 #[.int .i64 t,.int .i64 2,.int .i64 d] W (.tuple #[IZ,.int .i64 1])) :
  CB 9 #[.int .i64 m,.int .i64 t,.int .i64 d,A4 B] w (.tuple #[A4 0,.int .i64 0,.int .i64 1]):=by
 rw [Z4_eq]
 have hsm:=cell_set_map
 go_enter Tryz.func9,Tryz.ntmps9
 go_wp2_with (first
  | (go_at_call 28;refine (c1 _ (hT.go bgo)).mono ?_;rintro r w1 ⟨rfl,hb1⟩;obtain ⟨_,_,_,_,hA1,_⟩:=wz w hb1;obtain ⟨_,_⟩:=zf hb1 (w.heap.size+1);clear hb1)
  | (go_at_call 29;refine (c2 _ (hT.go bgo)).mono ?_;rintro r w2 ⟨rfl,hb2⟩;obtain ⟨_,_,_,_,hA2,_⟩:=wz w hb2;obtain ⟨_,_⟩:=zf hb2 (w.heap.size+1);obtain ⟨_,_⟩:=zf hb2 w1.heap.size;clear hb2))
 exact bodyPost_ret (by simp only [results,Tryz.results9];go_simp) rfl ⟨rfl,bgo⟩
variable (c2:∀ W,Tab W->CB 29 #[.int .i64 t,.int .i64 2,.int .i64 d] W (.tuple #[InfV t,.int .i64 0]))
include c2
theorem cvi_1 (hc:c=1)(R:Nat)(F:Int)
  (cR:∀ W,Tab W->CB 30 #[.int .i64 t,.int .i64 d,DV 1 s g x k] W (.tuple #[A4 R,.int .i64 F,.int .i64 0])) :
  CB 9 #[.int .i64 m,.int .i64 t,.int .i64 d,A4 B] w (.tuple #[A4 R,.int .i64 F,.int .i64 0]):=by
 subst hc
 have hsm:=cell_set_map
 go_enter Tryz.func9,Tryz.ntmps9
 go_wp2_with (first
  | (go_at_call 28;refine (c1 _ (hT.go bgo)).mono ?_;rintro r w1 ⟨rfl,hb1⟩;obtain ⟨_,_,_,_,hA1,_⟩:=wz w hb1;obtain ⟨_,_⟩:=zf hb1 (w.heap.size+1);clear hb1)
  | (go_at_call 29;refine (c2 _ (hT.go bgo)).mono ?_;rintro r w2 ⟨rfl,hb2⟩;obtain ⟨_,_,_,_,hA2,_⟩:=wz w hb2;obtain ⟨_,_⟩:=zf hb2 (w.heap.size+1);obtain ⟨_,_⟩:=zf hb2 w1.heap.size;clear hb2)
  | (go_at_call 30;refine (cR _ (hT.go bgo)).mono ?_;rintro r w3 ⟨rfl,hb3⟩;obtain ⟨_,_,_,_,hA3,_⟩:=wz w hb3;obtain ⟨_,_⟩:=zf hb3 (w.heap.size+1);obtain ⟨_,_⟩:=zf hb3 w1.heap.size;obtain ⟨_,_⟩:=zf hb3 w2.heap.size;clear hb3))
 exact bodyPost_ret (by simp only [results,Tryz.results9];go_simp) rfl ⟨rfl,bgo⟩
theorem cvi_3 (hc:c=2∨c=3)(k' R:Nat)(F:Int)
  (cC:∀ W,CB 31 #[InfV t,DV c s g x k] W (.tuple #[DV c s false x k',.int .i64 F]))
  (cP:∀ W,Tab W->CB 32 #[.int .i64 t,DV c s false x k'] W (.tuple #[A4 R,.int .i64 0])) :
  CB 9 #[.int .i64 m,.int .i64 t,.int .i64 d,A4 B] w (.tuple #[A4 R,.int .i64 F,.int .i64 0]):=by
 have hsm:=cell_set_map
 rcases hc with rfl|rfl
 all_goals (
  go_enter Tryz.func9,Tryz.ntmps9
  go_wp2_with (first
   | (go_at_call 28;refine (c1 _ (hT.go bgo)).mono ?_;rintro r w1 ⟨rfl,hb1⟩;obtain ⟨_,_,_,_,hA1,_⟩:=wz w hb1;obtain ⟨_,_⟩:=zf hb1 (w.heap.size+1);clear hb1)
   | (go_at_call 29;refine (c2 _ (hT.go bgo)).mono ?_;rintro r w2 ⟨rfl,hb2⟩;obtain ⟨_,_,_,_,hA2,_⟩:=wz w hb2;obtain ⟨_,_⟩:=zf hb2 (w.heap.size+1);obtain ⟨_,_⟩:=zf hb2 w1.heap.size;clear hb2)
   | (go_at_call 31;refine (cC _).mono ?_;rintro r w3 ⟨rfl,hb3⟩;obtain ⟨_,_,_,_,hA3,_⟩:=wz w hb3;obtain ⟨_,_⟩:=zf hb3 (w.heap.size+1);obtain ⟨_,_⟩:=zf hb3 w1.heap.size;obtain ⟨_,_⟩:=zf hb3 w2.heap.size;clear hb3)
   | (go_at_call 32;refine (cP _ (hT.go bgo)).mono ?_;rintro r w4 ⟨rfl,hb4⟩;obtain ⟨_,_,_,_,hA4,_⟩:=wz w hb4;obtain ⟨_,_⟩:=zf hb4 (w.heap.size+1);obtain ⟨_,_⟩:=zf hb4 w1.heap.size;obtain ⟨_,_⟩:=zf hb4 w2.heap.size;clear hb4))
  exact bodyPost_ret (by simp only [results,Tryz.results9];go_simp) rfl ⟨rfl,bgo⟩)
end
theorem bin_bound {t:Int}(hb:binN t)(W:World):Calls Tryz.prog 61 #[.int .i64 (baseN t),.int .i64 (payN t)] W fun r w'=>∃ v,r=.returned (.tuple #[v,.int .i64 0])/\Nt 2001 (2^(fN t-1)) v w'/\Below W.heap.size W w':=by
 obtain ⟨f1,f2,f3,f4,f5,f6⟩:=bin_fields hb
 have h2:=fN_two hb
 have h240:=(bin_fm hb).f240
 rw [f2,f6,show (fN t:Int)-1=((fN t-1:Nat):Int) by omega]
 exact npow2z (fN t-1) W (by omega)
theorem crn_v (m t d:Int)(B:Nat)(w:World)(hT:Tab w)(hB:B<2^256) :
  CB 9 #[.int .i64 m,.int .i64 t,.int .i64 d,A4 B] w (.tuple #[A4 (xiV m t d B),.int .i64 (xiF m t d B),.int .i64 (xiE m t d B)]):=by
 have c1:∀ W,Tab W->CB 28 #[.int .i64 m,A4 B] W (.tuple #[DV (vUD m B).c (vUD m B).s (vUD m B).g (vUD m B).x (vUD m B).k,.bool (vUC m B),.int .i64 (vUE m B)]):=fun W h=>dunpk14 m B hB W h
 unfold xiV xiF xiE
 by_cases h1:goodD m B
 ·rw [show vUE m B=0 from if_pos h1,show vUD m B=vM (fD m) B from if_pos h1] at c1
  by_cases h2:binN t/\knB d
  ·obtain ⟨hb,hd⟩:=h2
   obtain ⟨f1,f2,f3,f4,f5,f6⟩:=bin_fields hb
   have c2:=fun W h=>starg_y W h f1 f2 hd
   have hc:xiG m t d B:=⟨h1,hb,hd⟩
   rw [if_pos hc,if_pos hc,if_pos hc]
   have hi:=vM_is (fD_ok m) B
   have hkk:=vI_k (fD_ok m) hi
   have hxx:=vI_x (fD_ok m) hi
   generalize vM (fD m) B=D at *
   obtain ⟨c,s,g,x,k⟩:=D
   dsimp only at c1 hkk hxx
   have cC:=fun c W=>sconv_v t _ (bin_bound hb) c x s g hkk W
   rcases hi with ⟨i1,i2,i3,i4,i5⟩|⟨i1,i2,i3,i4⟩|⟨i1,i2,i3⟩
   ·dsimp only at i1 i2
    subst i1
    exact cvi_1 m t d 1 x s g _ k B w hT c1 c2 rfl _ _ (fun W h=>crd_v 1 s g hkk W h hb hd hxx)
   ·dsimp only at i1 i2 i3 i4
    subst i1 i2 i3 i4
    have hE:pkE t ⟨2,s,false,0,0⟩=0:=by
     unfold pkE
     rw [if_pos hb]
     exact if_pos (Or.inr (Or.inl ⟨rfl,rfl,rfl,rfl⟩))
    have cP:=fun W h=>pack_any t ⟨2,s,false,0,0⟩ W h (show 0<2^256 by decide)
    rw [hE] at cP
    refine cvi_3 m t d 2 0 s false _ 0 B w hT c1 c2 (Or.inl rfl) _ _ _ (cC 2) ?_
    rw [ite_self]
    exact cP
   ·dsimp only at i1 i2
    subst i1 i2
    have hk':(if k<2^(fN t-1) then k else 0)<2^256:=by split<;>omega
    have hE:pkE t ⟨3,s,false,0,if k<2^(fN t-1) then k else 0⟩=0:=by
     unfold pkE
     rw [if_pos hb]
     refine if_pos (Or.inr (Or.inr ⟨rfl,rfl,?_,Or.inr rfl⟩))
     dsimp only
     split
     ·assumption
     ·exact Nat.two_pow_pos _
    have cP:=fun W h=>pack_any t ⟨3,s,false,0,if k<2^(fN t-1) then k else 0⟩ W h hk'
    rw [hE] at cP
    exact cvi_3 m t d 3 0 s g _ k B w hT c1 c2 (Or.inr rfl) _ _ _ (cC 3) cP
  ·have hc:¬ xiG m t d B:=fun q=>h2 q.2
   rw [if_neg hc,if_neg hc,if_neg hc]
   refine cvi_e2 m t d _ _ _ _ _ _ B w hT c1 (fun W h=>starg_n W h ?_)
   rintro ⟨a1,a2,a3⟩
   refine h2 ⟨?_,a3⟩
   apply Classical.byContradiction
   intro hn
   rcases not_bin hn with ⟨q1,q2⟩|q1
   ·rw [a2] at q2;exact absurd q2 (by decide)
   ·exact q1 a1
 ·rw [show vUE m B=1 from if_neg h1] at c1
  have hc:¬ xiG m t d B:=fun q=>h1 q.1
  rw [if_neg hc,if_neg hc,if_neg hc]
  exact cvi_e1 m t d _ _ _ _ _ _ B w hT c1
theorem crnC:CrnC Tab:=⟨fun w w' h hb=>h.go hb,fun m t d Bp W hB hT=>crn_v m t d Bp W hT hB⟩
end
section
attribute [local irreducible] W4 Nt NT NV
theorem W4_u64 {C:Nat}(h:C<=4294967295):W4 C 0=(C:Int)/\W4 C 1=0/\W4 C 2=0/\W4 C 3=0:=by
 unfold W4
 refine ⟨?_,?_,?_,?_⟩
 ·have:C/2^(64*0)%18446744073709551616=C:=by omega
  simp at this ⊢
  omega
 ·have:C/2^(64*1)=0:=Nat.div_eq_of_lt (by omega)
  simp at this ⊢
  omega
 ·have:C/2^(64*2)=0:=Nat.div_eq_of_lt (by omega)
  simp at this ⊢
  omega
 ·have:C/2^(64*3)=0:=Nat.div_eq_of_lt (by omega)
  simp at this ⊢
  omega
end
section
attribute [local irreducible] W4 Nt NT NV
section
variable (TT:World->Prop)(hTT:∀ w w',TT w->Below w.heap.size w w'->TT w')(w:World)(hT:TT w)
 (c8:∀ W,TT W->CB 8 #[] W (.bool true))
variable (n tt dd m e:Int)(sg:Bool)(C:Nat)(hC:C<=4294967295)(he:-32768<=e/\e<=32767)(hm:0<=m/\m<=255)
include hTT hT c8 hC he hm
theorem ci_a (b1 b2 b3:Bool)(hn:(b1&&b2&&b3)=false)(c17:∀ W,CQ 11 #[.int .i64 n] W (.bool b1))
  (c14:∀ W,CQ 12 #[.int .i64 tt] W (.bool b2))
  (c10:∀ W,CQ 13 #[.int .i64 dd] W (.bool b3)):CB 4 #[.int .i64 n,.int .i64 tt,.int .i64 dd,.int .u32 (C:Int),.int .i16 e,.int .u8 m,.bool sg] w (.bool true):=by
 cases b1<;>cases b2<;>cases b3<;>simp only [Bool.and_self,Bool.and_true,Bool.and_false,Bool.true_and,Bool.false_and,Bool.true_eq_false] at hn
 all_goals (
  clear hn
  go_enter Tryz.func4,Tryz.ntmps4
  go_wp2_with (first
   | (have:=hA1;go_at_call 8;refine (c8 _ (hTT _ _ hT bgo)).mono ?_;rintro r w2 ⟨rfl,hb2⟩;obtain ⟨_,_,hA2,_⟩:=wf w hb2;clear hb2)
   | (go_at_call 8;refine (c8 _ (hTT _ _ hT bgo)).mono ?_;rintro r w1 ⟨rfl,hb1⟩;obtain ⟨_,_,hA1,_⟩:=wf w hb1;clear hb1)
   | (go_at_call 11;refine (c17 _).mono ?_;rintro r w0 ⟨rfl,rfl⟩)
   | (go_at_call 12;refine (c14 _).mono ?_;rintro r w0 ⟨rfl,rfl⟩)
   | (go_at_call 13;refine (c10 _).mono ?_;rintro r w0 ⟨rfl,rfl⟩))
  go_ret
  exact ⟨by first|rfl|simp,bgo⟩)
variable (c17:∀ W,CQ 11 #[.int .i64 n] W (.bool true))
 (c14:∀ W,CQ 12 #[.int .i64 tt] W (.bool true))
 (c10:∀ W,CQ 13 #[.int .i64 dd] W (.bool true))
include c17 c14 c10
variable (k X:Nat)(hk:m.tmod 30=(k:Int))(hk2:m%30=(k:Int))(hk3:(k:Int)<=29)
 (nm:ByteArray) (wd pr ex le mo pa:Int) (dn:Bool)
 (c19:∀ W,CB 14 #[.int .i64 n] W (.tuple #[IDec n nm wd pr ex le mo pa dn,.int .i64 0]))
 (c25:∀ W,CE 17 #[.int .u64 10,.int .i64 (k:Int)] W (NT 1001 (10^k)))
 (c24:∀ W v v',NV 1 C v W->NT 1001 (10^k) v' W->CE 16 #[v,v'] W (NT 2001 X))
 (c22:∀ W v,NT 2001 X v W->CB 15 #[v] W (A4 X))
include hk hk2 hk3 c19 c25 c24 c22
theorem ci_i (c26:∀ W,CB 18 #[IDec n nm wd pr ex le mo pa dn,.agg #[.int .i64 1,.bool sg,.bool false,.int .i64 e,.int .u64 (C:Int),.int .u64 0,.int .u64 0,.int .u64 0]] W (.bool false)):CB 4 #[.int .i64 n,.int .i64 tt,.int .i64 dd,.int .u32 (C:Int),.int .i16 e,.int .u8 m,.bool sg] w (.bool true):=by
 have hsm:=cell_set_map
 unfold A4 at *
 go_enter Tryz.func4,Tryz.ntmps4
 go_wp2_with (first
  | (go_at_call 8;refine (c8 _ (hTT _ _ hT bgo)).mono ?_;rintro r w1 ⟨rfl,hb1⟩;obtain ⟨_,_,hA1,_⟩:=wf w hb1;clear hb1)
  | (go_at_call 11;refine (c17 _).mono ?_;rintro r w0 ⟨rfl,rfl⟩)
  | (go_at_call 12;refine (c14 _).mono ?_;rintro r w0 ⟨rfl,rfl⟩)
  | (go_at_call 13;refine (c10 _).mono ?_;rintro r w0 ⟨rfl,rfl⟩)
  | (go_at_call 14;refine (c19 _).mono ?_;rintro r w2 ⟨rfl,hb2⟩;obtain ⟨_,_,hA2,_⟩:=wf w hb2;clear hb2)
  | (go_at_call 17;refine (c25 _).mono ?_;rintro r w3 ⟨v3,rfl,hn3,hb3⟩;have hnC:NV 1 C (.slice (some ⟨w2.heap.size+2,0,none⟩) 1 1) w3:=NV.next (nv_dec (by simp) rfl (by omega)) hb3;obtain ⟨_,_,_,_,hA3,_⟩:=wz w hb3 w2.heap.size;obtain ⟨_,_⟩:=zf hb3 (w2.heap.size+1);clear hb3)
  | (go_at_call 16;refine (c24 _ _ _ (by first|exact hnC|simpa using hnC) hn3).mono ?_;rintro r w4 ⟨v4,rfl,hn4,hb4⟩;obtain ⟨_,_,_,_,hA4,_⟩:=wz w hb4 w2.heap.size;obtain ⟨_,_⟩:=zf hb4 (w2.heap.size+1);clear hb4)
  | (go_at_call 15;refine (c22 _ _ hn4).mono ?_;rintro r w5 ⟨rfl,hb5⟩;obtain ⟨_,_,_,_,hA5,_⟩:=wz w hb5 w2.heap.size;obtain ⟨_,_⟩:=zf hb5 (w2.heap.size+1);clear hb5)
  | (go_at_call 18;refine (c26 _).mono ?_;rintro r w6 ⟨rfl,hb6⟩;obtain ⟨_,_,_,_,hA6,_⟩:=wz w hb6 w2.heap.size;obtain ⟨_,_⟩:=zf hb6 (w2.heap.size+1);obtain ⟨_,_⟩:=zf hb6 w5.heap.size;clear hb6))
 go_ret
 exact ⟨by first|rfl|simp,bgo⟩
variable (c26:∀ W,CB 18 #[IDec n nm wd pr ex le mo pa dn,.agg #[.int .i64 1,.bool sg,.bool false,.int .i64 e,.int .u64 (C:Int),.int .u64 0,.int .u64 0,.int .u64 0]] W (.bool true))
include c26
theorem ci_j (c26b:∀ W,CB 18 #[IDec n nm wd pr ex le mo pa dn,.agg #[.int .i64 1,.bool sg,.bool false,.int .i64 (e-k),.int .u64 (W4 X 0),.int .u64 (W4 X 1),.int .u64 (W4 X 2),.int .u64 (W4 X 3)]] W (.bool false)):CB 4 #[.int .i64 n,.int .i64 tt,.int .i64 dd,.int .u32 (C:Int),.int .i16 e,.int .u8 m,.bool sg] w (.bool true):=by
 have hsm:=cell_set_map
 unfold A4 at *
 go_enter Tryz.func4,Tryz.ntmps4
 go_wp2_with (first
  | (go_at_call 8;refine (c8 _ (hTT _ _ hT bgo)).mono ?_;rintro r w1 ⟨rfl,hb1⟩;obtain ⟨_,_,hA1,_⟩:=wf w hb1;clear hb1)
  | (go_at_call 11;refine (c17 _).mono ?_;rintro r w0 ⟨rfl,rfl⟩)
  | (go_at_call 12;refine (c14 _).mono ?_;rintro r w0 ⟨rfl,rfl⟩)
  | (go_at_call 13;refine (c10 _).mono ?_;rintro r w0 ⟨rfl,rfl⟩)
  | (go_at_call 14;refine (c19 _).mono ?_;rintro r w2 ⟨rfl,hb2⟩;obtain ⟨_,_,hA2,_⟩:=wf w hb2;clear hb2)
  | (go_at_call 17;refine (c25 _).mono ?_;rintro r w3 ⟨v3,rfl,hn3,hb3⟩;have hnC:NV 1 C (.slice (some ⟨w2.heap.size+2,0,none⟩) 1 1) w3:=NV.next (nv_dec (by simp) rfl (by omega)) hb3;obtain ⟨_,_,_,_,hA3,_⟩:=wz w hb3 w2.heap.size;obtain ⟨_,_⟩:=zf hb3 (w2.heap.size+1);clear hb3)
  | (go_at_call 16;refine (c24 _ _ _ (by first|exact hnC|simpa using hnC) hn3).mono ?_;rintro r w4 ⟨v4,rfl,hn4,hb4⟩;obtain ⟨_,_,_,_,hA4,_⟩:=wz w hb4 w2.heap.size;obtain ⟨_,_⟩:=zf hb4 (w2.heap.size+1);clear hb4)
  | (go_at_call 15;refine (c22 _ _ hn4).mono ?_;rintro r w5 ⟨rfl,hb5⟩;obtain ⟨_,_,_,_,hA5,_⟩:=wz w hb5 w2.heap.size;obtain ⟨_,_⟩:=zf hb5 (w2.heap.size+1);clear hb5)
  | (have:=hA6;go_at_call 18;refine (c26b _).mono ?_;rintro r w7 ⟨rfl,hb7⟩;obtain ⟨_,_,_,_,hA7,_⟩:=wz w hb7 w2.heap.size;obtain ⟨_,_⟩:=zf hb7 (w2.heap.size+1);obtain ⟨_,_⟩:=zf hb7 w5.heap.size;clear hb7)
  | (go_at_call 18;refine (c26 _).mono ?_;rintro r w6 ⟨rfl,hb6⟩;obtain ⟨_,_,_,_,hA6,_⟩:=wz w hb6 w2.heap.size;obtain ⟨_,_⟩:=zf hb6 (w2.heap.size+1);obtain ⟨_,_⟩:=zf hb6 w5.heap.size;clear hb6))
 go_ret
 exact ⟨by first|rfl|simp,bgo⟩
variable (c26b:∀ W,CB 18 #[IDec n nm wd pr ex le mo pa dn,.agg #[.int .i64 1,.bool sg,.bool false,.int .i64 (e-k),.int .u64 (W4 X 0),.int .u64 (W4 X 1),.int .u64 (W4 X 2),.int .u64 (W4 X 3)]] W (.bool true))
 (P Q V:Nat) (E1 E2 F:Int)
 (c27:∀ W,CB 19 #[.int .i64 n,.agg #[.int .i64 1,.bool sg,.bool false,.int .i64 e,.int .u64 (C:Int),.int .u64 0,.int .u64 0,.int .u64 0]] W (.tuple #[A4 P,.int .i64 E1]))
 (c27b:∀ W,CB 19 #[.int .i64 n,.agg #[.int .i64 1,.bool sg,.bool false,.int .i64 (e-k),.int .u64 (W4 X 0),.int .u64 (W4 X 1),.int .u64 (W4 X 2),.int .u64 (W4 X 3)]] W (.tuple #[A4 Q,.int .i64 E2]))
 (c9:∀ W,TT W->CB 9 #[.int .i64 n,.int .i64 tt,.int .i64 dd,A4 P] W (.tuple #[A4 V,.int .i64 F,.int .i64 0]))
 (c9b:∀ W,TT W->CB 9 #[.int .i64 n,.int .i64 tt,.int .i64 dd,A4 Q] W (.tuple #[A4 V,.int .i64 F,.int .i64 0]))
include c26b c27 c27b c9 c9b
theorem ci_k:CB 4 #[.int .i64 n,.int .i64 tt,.int .i64 dd,.int .u32 (C:Int),.int .i16 e,.int .u8 m,.bool sg] w (.bool true):=by
 have hsm:=cell_set_map
 have e1:=eq24 (W4 V 0) (W4 V 1) (W4 V 2) (W4 V 3) (W4 V 0) (W4 V 1) (W4 V 2) (W4 V 3)
 rw [decide_eq_true ⟨rfl,rfl,rfl,rfl⟩] at e1
 unfold A4 at *
 go_enter Tryz.func4,Tryz.ntmps4
 go_wp2_with (first
  | (go_at_call 8;refine (c8 _ (hTT _ _ hT bgo)).mono ?_;rintro r w1 ⟨rfl,hb1⟩;obtain ⟨_,_,hA1,_⟩:=wf w hb1;clear hb1)
  | (go_at_call 11;refine (c17 _).mono ?_;rintro r w0 ⟨rfl,rfl⟩)
  | (go_at_call 12;refine (c14 _).mono ?_;rintro r w0 ⟨rfl,rfl⟩)
  | (go_at_call 13;refine (c10 _).mono ?_;rintro r w0 ⟨rfl,rfl⟩)
  | (go_at_call 14;refine (c19 _).mono ?_;rintro r w2 ⟨rfl,hb2⟩;obtain ⟨_,_,hA2,_⟩:=wf w hb2;clear hb2)
  | (go_at_call 17;refine (c25 _).mono ?_;rintro r w3 ⟨v3,rfl,hn3,hb3⟩;have hnC:NV 1 C (.slice (some ⟨w2.heap.size+2,0,none⟩) 1 1) w3:=NV.next (nv_dec (by simp) rfl (by omega)) hb3;obtain ⟨_,_,_,_,hA3,_⟩:=wz w hb3 w2.heap.size;obtain ⟨_,_⟩:=zf hb3 (w2.heap.size+1);clear hb3)
  | (go_at_call 16;refine (c24 _ _ _ (by first|exact hnC|simpa using hnC) hn3).mono ?_;rintro r w4 ⟨v4,rfl,hn4,hb4⟩;obtain ⟨_,_,_,_,hA4,_⟩:=wz w hb4 w2.heap.size;obtain ⟨_,_⟩:=zf hb4 (w2.heap.size+1);clear hb4)
  | (go_at_call 15;refine (c22 _ _ hn4).mono ?_;rintro r w5 ⟨rfl,hb5⟩;obtain ⟨_,_,_,_,hA5,_⟩:=wz w hb5 w2.heap.size;obtain ⟨_,_⟩:=zf hb5 (w2.heap.size+1);clear hb5)
  | (have:=hA6;go_at_call 18;refine (c26b _).mono ?_;rintro r w7 ⟨rfl,hb7⟩;obtain ⟨_,_,_,_,hA7,_⟩:=wz w hb7 w2.heap.size;obtain ⟨_,_⟩:=zf hb7 (w2.heap.size+1);obtain ⟨_,_⟩:=zf hb7 w5.heap.size;clear hb7)
  | (go_at_call 18;refine (c26 _).mono ?_;rintro r w6 ⟨rfl,hb6⟩;obtain ⟨_,_,_,_,hA6,_⟩:=wz w hb6 w2.heap.size;obtain ⟨_,_⟩:=zf hb6 (w2.heap.size+1);obtain ⟨_,_⟩:=zf hb6 w5.heap.size;clear hb6)
  | (have:=hA8;go_at_call 19;refine (c27b _).mono ?_;rintro r w9 ⟨rfl,hb9⟩;obtain ⟨_,_,_,_,hA9,_⟩:=wz w hb9 w2.heap.size;obtain ⟨_,_⟩:=zf hb9 (w2.heap.size+1);obtain ⟨_,_⟩:=zf hb9 w5.heap.size;obtain ⟨_,_⟩:=zf hb9 w8.heap.size;clear hb9)
  | (go_at_call 19;refine (c27 _).mono ?_;rintro r w8 ⟨rfl,hb8⟩;obtain ⟨_,_,_,_,hA8,_⟩:=wz w hb8 w2.heap.size;obtain ⟨_,_⟩:=zf hb8 (w2.heap.size+1);obtain ⟨_,_⟩:=zf hb8 w5.heap.size;clear hb8)
  | (have:=hA10;go_at_call 9;refine (c9b _ (hTT _ _ hT bgo)).mono ?_;rintro r w11 ⟨rfl,hb11⟩;obtain ⟨_,_,_,_,hA11,_⟩:=wz w hb11 w8.heap.size;obtain ⟨_,_⟩:=zf hb11 w9.heap.size;obtain ⟨_,_⟩:=zf hb11 w10.heap.size;clear hb11)
  | (go_at_call 9;refine (c9 _ (hTT _ _ hT bgo)).mono ?_;rintro r w10 ⟨rfl,hb10⟩;obtain ⟨_,_,_,_,hA10,_⟩:=wz w hb10 w8.heap.size;obtain ⟨_,_⟩:=zf hb10 w9.heap.size;clear hb10))
 go_ret
 exact ⟨by first|rfl|simp,bgo⟩
end
theorem ci_zeros (t d:Int)(s:Bool)(C k:Nat)(e:Int):ciV t d ⟨1,s,false,e-k,C*10^k⟩=ciV t d ⟨1,s,false,e,C⟩/\ciF t d ⟨1,s,false,e-k,C*10^k⟩=ciF t d ⟨1,s,false,e,C⟩:=tn_zeros t d s C k e
theorem cohorts18_v {TT:World->Prop}(h:CrnC TT)(n t d m e:Int)(C:Nat)(s:Bool)(w:World)(hT:TT w)(hC:C<=4294967295)(he:-32768<=e/\e<=32767)(hm:0<=m/\m<=255):CB 4 #[.int .i64 n,.int .i64 t,.int .i64 d,.int .u32 (C:Int),.int .i16 e,.int .u8 m,.bool s] w (.bool true):=by
 have c8:=fun W hW=>awake18 h W hW
 have c17:=fun W=>rdecimal_any n W
 have c14:∀ W,CQ 12 #[.int .i64 t] W (.bool (decide (binN t))):=fun W=>(rbinary_any t W).mono fun r w' h=>⟨h.1,h.2.symm⟩
 have c10:=fun W=>rdir_any d W
 by_cases hq:decN n/\binN t/\knB d
 ·obtain ⟨hn,hb,hd⟩:=hq
  rw [decide_eq_true hn] at c17
  rw [decide_eq_true hb] at c14
  rw [decide_eq_true hd] at c10
  obtain ⟨k,hk⟩:∃ k:Nat,m%30=(k:Int):=⟨(m%30).toNat,by omega⟩
  have hk3:(k:Int)<=29:=by omega
  have hk1:m.tmod 30=(k:Int):=by rw [Int.tmod_eq_emod_of_nonneg hm.1];exact hk
  have c19:=fun W=>rof_dec hn W
  have c25:∀ W,CE 17 #[.int .u64 10,.int .i64 (k:Int)] W (NT 1001 (10^k)):=fun W =>
   (rpow_nt 10 k W (by decide) (by decide) (by omega)).mono fun r w' ⟨v,e1,e2,e3⟩=>⟨v,e1,e2.more (by omega),e3⟩
  have c24:∀ W v v',NV 1 C v W->NT 1001 (10^k) v' W->CE 16 #[v,v'] W (NT 2001 (C*10^k)):=fun W v v' hv hv' =>
   (rtimes_nt (by decide) (by decide) hv hv'.nv).mono fun r w' ⟨u,e1,e2,e3⟩=>⟨u,e1,e2.more (by omega),e3⟩
  have c22:=fun W v (hv:NT 2001 (C*10^k) v W)=>bits_nv hv.nv
  have hX:C*10^k<2^256:=by
   have a1:10^k<=10^29:=Nat.pow_le_pow_right (by decide) (by omega)
   have a2:C*10^k<=4294967295*10^29:=Nat.mul_le_mul hC a1
   have a3:4294967295*10^29<2^256:=by decide
   omega
  have hC2:C<2^256:=by
   have:4294967295<2^256:=by decide
   omega
  obtain ⟨q0,q1,q2,q3⟩:=W4_u64 hC
  have c26:=fun W=>ris14 (fD n) (fD_ok n) n (nameN n) (((fD n).t+((fD n).w+6):Nat):Int) (expN n) (fD n).dn ⟨1,s,false,e,C⟩ W hC2
  have c26b:=fun W=>ris14 (fD n) (fD_ok n) n (nameN n) (((fD n).t+((fD n).w+6):Nat):Int) (expN n) (fD n).dn ⟨1,s,false,e-k,C*10^k⟩ W hX
  have c27:=fun W=>rpk14 n ⟨1,s,false,e,C⟩ W hC2
  have c27b:=fun W=>rpk14 n ⟨1,s,false,e-k,C*10^k⟩ W hX
  unfold Dat.v DV at c26 c27 c26b c27b
  dsimp only at c26 c27 c26b c27b
  rw [q0,q1,q2,q3] at c26 c27
  by_cases ha:vI (fD n) ⟨1,s,false,e,C⟩
  ·rw [decide_eq_true ha] at c26
   by_cases hb':vI (fD n) ⟨1,s,false,e-k,C*10^k⟩
   ·rw [decide_eq_true hb'] at c26b
    have pa:vPV n ⟨1,s,false,e,C⟩=vP (fD n) ⟨1,s,false,e,C⟩:=if_pos ⟨hn,ha⟩
    have pb:vPV n ⟨1,s,false,e-k,C*10^k⟩=vP (fD n) ⟨1,s,false,e-k,C*10^k⟩:=if_pos ⟨hn,hb'⟩
    have ga:xiG n t d (vP (fD n) ⟨1,s,false,e,C⟩):=⟨⟨hn,vP_lt (fD_ok n) ha⟩,hb,hd⟩
    have gb:xiG n t d (vP (fD n) ⟨1,s,false,e-k,C*10^k⟩):=⟨⟨hn,vP_lt (fD_ok n) hb'⟩,hb,hd⟩
    have c9:=fun W hW=>h.cv n t d (vP (fD n) ⟨1,s,false,e,C⟩) W (vP_256 (fD_ok n) ha) hW
    have c9b:=fun W hW=>h.cv n t d (vP (fD n) ⟨1,s,false,e-k,C*10^k⟩) W (vP_256 (fD_ok n) hb') hW
    unfold xiV xiF xiE at c9 c9b
    rw [if_pos ga,if_pos ga,if_pos ga,vM_vP (fD_ok n) ha] at c9
    rw [if_pos gb,if_pos gb,if_pos gb,vM_vP (fD_ok n) hb',(ci_zeros t d s C k e).1,(ci_zeros t d s C k e).2] at c9b
    rw [pa] at c27
    rw [pb] at c27b
    exact ci_k TT h.next w hT c8 n t d m e s C hC he hm c17 c14 c10 k _ hk1 hk hk3 _ _ _ _ _ _ _ _ c19 c25 c24 c22 c26 c26b _ _ _ _ _ _ c27 c27b c9 c9b
   ·rw [decide_eq_false hb'] at c26b
    exact ci_j TT h.next w hT c8 n t d m e s C hC he hm c17 c14 c10 k _ hk1 hk hk3 _ _ _ _ _ _ _ _ c19 c25 c24 c22 c26 c26b
  ·rw [decide_eq_false ha] at c26
   exact ci_i TT h.next w hT c8 n t d m e s C hC he hm c17 c14 c10 k _ hk1 hk hk3 _ _ _ _ _ _ _ _ c19 c25 c24 c22 c26
 ·refine ci_a TT h.next w hT c8 n t d m e s C hC he hm _ _ _ ?_ c17 c14 c10
  by_cases a1:decN n
  ·by_cases a2:binN t
   ·have a3:¬ knB d:=fun a3=>hq ⟨a1,a2,a3⟩
    rw [decide_eq_false (p:=knB d) a3,Bool.and_false]
   ·rw [decide_eq_false (p:=binN t) a2,Bool.and_false,Bool.false_and]
  ·rw [decide_eq_false (p:=decN n) a1,Bool.false_and,Bool.false_and]
end
section
attribute [local irreducible] W4 NV NT Nt
section
variable {a:Act}{w:World}{K:Act->World->Prop}{Q:Exit->Act->World->Prop}{d p q r:Nat}{ty:TypeId}{pos:String}{after:Array Edge}{gd:Option (Nat×Bool)}
theorem oj_eq3 {x:Int}(h1:slot a p=.int .i64 x)(h2:slot a q=.int .i64 x)(hK:K (a.put (some d) (.bool true)) w):Oper.wp Tryz.prog { dst:=some d,op:=Op.binOp BinOp.eql 3 (Operand.tmp p) (Operand.tmp q) 3,type:=ty,pos:=pos,after:=after,guard:=gd } a w K Q:=by
 unfold slot at h1 h2
 simp [go_sem,h1,h2]
 exact hK
end
noncomputable def opsJ15:List Oper:=(Tryz.f7.body.bind (findR 15)).getD []
def slotsJ15:List Nat:=[104,105,106,107,108,109,110,111,112,113,114,8]
theorem regJ15 {gc gb ge X Y:Nat}{F:Int}{a0:Act}{ws:World}{Q:Exit->Act->World->Prop}(hs:a0.tmps.size=115)(hS:X+Y<2^256)
  (g18:slot a0 18=.int .i64 F) (g21:slot a0 21=.int .i64 F) (g17:slot a0 17=.pointer (some ⟨gc,0,none⟩)) (g25:slot a0 25=.pointer (some ⟨gb,0,none⟩)) (g20:slot a0 20=.pointer (some ⟨ge,0,none⟩))
  (hlt:ge<ws.heap.size) (q0:ws.cell? ⟨ge,0,none⟩=some (.int .u64 (W4 (X+Y) 0))) (q1:ws.cell? ⟨ge,1,none⟩=some (.int .u64 (W4 (X+Y) 1))) (q2:ws.cell? ⟨ge,2,none⟩=some (.int .u64 (W4 (X+Y) 2))) (q3:ws.cell? ⟨ge,3,none⟩=some (.int .u64 (W4 (X+Y) 3)))
  (uX:Nt 4 X (.slice (some ⟨gc,0,none⟩) 4 4) ws) (uY:Nt 4 Y (.slice (some ⟨gb,0,none⟩) 4 4) ws)
  (cA:∀ W,Nt 4 X (.slice (some ⟨gc,0,none⟩) 4 4) W->Nt 4 Y (.slice (some ⟨gb,0,none⟩) 4 4) W->CE 27 #[.slice (some ⟨gc,0,none⟩) 4 4,.slice (some ⟨gb,0,none⟩) 4 4] W (NT 9 (X+Y)))
  (cB:∀ W v,NT 9 (X+Y) v W->CB 15 #[v] W (A4 (X+Y)))
  (hQ:∀ (a:Act) (w:World),slot a 8=.bool true->a.tmps.size=115->a.defers=a0.defers->Below ws.heap.size ws w->Q .normal a w) :
  (Code.region 15 opsJ15.toArray true).wp Tryz.prog Q a0 ws:=by
 refine wp_region_gall 115 slotsJ15 [isV (.int .i64 F),isV (.int .i64 F),isV (.bool true),isV (.bool true),isV (.slice (some ⟨gc,0,none⟩) 4 4),isV (.slice (some ⟨gb,0,none⟩) 4 4),NT 9 (X+Y),isV (A4 (X+Y)),isV (A4 (X+Y)),isV (.bool true),isV (.bool true),isV (.bool true)]
  (fun w=>Below ws.heap.size ws w) (by kernel_rfl) (by kernel_rfl) (by kernel_rfl) (by kernel_rfl) hs ?_ (Below.refl _ _).drew (fun w w' h hb=>h.trans (hb.mono h.size)) ?_ ?_ ?_
 ·intro p hp
  simp only [List.mem_cons,List.not_mem_nil,or_false] at hp
  rcases hp with rfl|rfl|rfl|rfl|rfl|rfl|rfl|rfl|rfl|rfl|rfl|rfl
  all_goals first|exact isV.stays _|exact fun v w w' h hb=>h.next hb
 ·intro i o j b hi ho hg v w hv
  have hi':i<12:=hi
  have hor:i=0∨i=1∨i=2∨i=3∨i=4∨i=5∨i=6∨i=7∨i=8∨i=9∨i=10∨i=11:=by omega
  rcases hor with rfl|rfl|rfl|rfl|rfl|rfl|rfl|rfl|rfl|rfl|rfl|rfl
  all_goals
   obtain rfl:=Option.some.inj (show opsJ15[_]?=some o from ho)
   cases hg
  all_goals exact hv
 ·intro i o' a w hi ho hC hF hdep
  have f18:slot a 18=.int .i64 F:=(hF 18 (by decide)).trans g18
  have f21:slot a 21=.int .i64 F:=(hF 21 (by decide)).trans g21
  have f17:slot a 17=.pointer (some ⟨gc,0,none⟩):=(hF 17 (by decide)).trans g17
  have f25:slot a 25=.pointer (some ⟨gb,0,none⟩):=(hF 25 (by decide)).trans g25
  have f20:slot a 20=.pointer (some ⟨ge,0,none⟩):=(hF 20 (by decide)).trans g20
  have k0:w.cell? ⟨ge,0,none⟩=some (.int .u64 (W4 (X+Y) 0)):=(hC.cell (p:=⟨ge,0,none⟩) hlt).trans q0
  have k1:w.cell? ⟨ge,1,none⟩=some (.int .u64 (W4 (X+Y) 1)):=(hC.cell (p:=⟨ge,1,none⟩) hlt).trans q1
  have k2:w.cell? ⟨ge,2,none⟩=some (.int .u64 (W4 (X+Y) 2)):=(hC.cell (p:=⟨ge,2,none⟩) hlt).trans q2
  have k3:w.cell? ⟨ge,3,none⟩=some (.int .u64 (W4 (X+Y) 3)):=(hC.cell (p:=⟨ge,3,none⟩) hlt).trans q3
  have hi':i<12:=hi
  have hor:i=0∨i=1∨i=2∨i=3∨i=4∨i=5∨i=6∨i=7∨i=8∨i=9∨i=10∨i=11:=by omega
  rcases hor with rfl|rfl|rfl|rfl|rfl|rfl|rfl|rfl|rfl|rfl|rfl|rfl
  ·obtain rfl:=Option.some.inj (show opsJ15[0]?=some o' from ho)
   exact og_mv f18 ⟨_,rfl,rfl,Below.refl _ _⟩
  ·obtain rfl:=Option.some.inj (show opsJ15[1]?=some o' from ho)
   exact og_mv f21 ⟨_,rfl,rfl,Below.refl _ _⟩
  ·obtain rfl:=Option.some.inj (show opsJ15[2]?=some o' from ho)
   exact oj_eq3 (hdep ⟨0,.data⟩ (by simp) rfl:slot a 104=.int .i64 F) (hdep ⟨1,.data⟩ (by simp) rfl:slot a 105=.int .i64 F) ⟨_,rfl,rfl,Below.refl _ _⟩
  ·obtain rfl:=Option.some.inj (show opsJ15[3]?=some o' from ho)
   exact og_mv (hdep ⟨2,.data⟩ (by simp) rfl:slot a 106=.bool true) ⟨_,rfl,rfl,Below.refl _ _⟩
  ·obtain rfl:=Option.some.inj (show opsJ15[4]?=some o' from ho)
   exact og_slB f17 ⟨_,rfl,rfl,Below.refl _ _⟩
  ·obtain rfl:=Option.some.inj (show opsJ15[5]?=some o' from ho)
   exact og_slB f25 ⟨_,rfl,rfl,Below.refl _ _⟩
  ·obtain rfl:=Option.some.inj (show opsJ15[6]?=some o' from ho)
   refine og_c2 (by simp [go_sem]) (hdep ⟨4,.data⟩ (by simp) rfl:slot a 108=.slice (some ⟨gc,0,none⟩) 4 4) (hdep ⟨5,.data⟩ (by simp) rfl:slot a 109=.slice (some ⟨gb,0,none⟩) 4 4) ((cA w (uX.next hC) (uY.next hC)).mono ?_)
   rintro e w' ⟨v,rfl,hv,hb⟩
   exact ⟨_,rfl,_,rfl,hv,hb⟩
  ·obtain rfl:=Option.some.inj (show opsJ15[7]?=some o' from ho)
   refine og_c1 (by simp [go_sem]) rfl ((cB w _ (hdep ⟨6,.data⟩ (by simp) rfl)).mono ?_)
   rintro e w' ⟨rfl,hb⟩
   exact ⟨_,rfl,_,rfl,rfl,hb⟩
  ·obtain rfl:=Option.some.inj (show opsJ15[8]?=some o' from ho)
   exact og_ldB f20 k0 k1 k2 k3 ⟨_,rfl,rfl,Below.refl _ _⟩
  ·obtain rfl:=Option.some.inj (show opsJ15[9]?=some o' from ho)
   exact og_eqB hS hS (decide_eq_true rfl) (hdep ⟨7,.data⟩ (by simp) rfl:slot a 111=A4 (X+Y)) (hdep ⟨8,.data⟩ (by simp) rfl:slot a 112=A4 (X+Y)) ⟨_,rfl,rfl,Below.refl _ _⟩
  ·obtain rfl:=Option.some.inj (show opsJ15[10]?=some o' from ho)
   exact og_pkT (hdep ⟨3,.data⟩ (by simp) rfl:slot a 107=.bool true) (hdep ⟨9,.data⟩ (by simp) rfl:slot a 113=.bool true) ⟨_,rfl,rfl,Below.refl _ _⟩
  ·obtain rfl:=Option.some.inj (show opsJ15[11]?=some o' from ho)
   exact og_as (hdep ⟨10,.data⟩ (by simp) rfl:slot a 114=.bool true) ⟨_,rfl,rfl,Below.refl _ _⟩
 ·intro a w hC hsz hdf hF hR
  exact hQ a w (hR 11 (by decide)) hsz hdf hC
section
variable (TT:World->Prop)(hTT:∀ w w',TT w->Below w.heap.size w w'->TT w')(w:World)(hT:TT w)
 (c8:∀ W,TT W->CB 8 #[] W (.bool true))
variable (m t d:Int)(Bp:Nat)
include hTT hT c8
theorem tn18_n (b1 b2 b3:Bool)(hn:(b1&&b2&&b3)=false)
  (c15:∀ W,CB 20 #[.int .i64 m,A4 Bp] W (.bool b1))
  (c14:∀ W,CQ 12 #[.int .i64 t] W (.bool b2))
  (c10:∀ W,CQ 13 #[.int .i64 d] W (.bool b3)) :
  CB 7 #[.int .i64 m,.int .i64 t,.int .i64 d,A4 Bp] w (.bool true):=by
 have hsm:=cell_set_map
 unfold A4 at *
 cases b1<;>cases b2<;>cases b3<;>simp only [Bool.and_self,Bool.and_true,Bool.and_false,Bool.true_and,Bool.false_and,Bool.true_eq_false] at hn
 all_goals (
  clear hn
  go_enter Tryz.func7,Tryz.ntmps7
  go_wp2_with (first
   | (have:=hA2;go_at_call 8;refine (c8 _ (hTT _ _ hT bgo)).mono ?_;rintro r w4 ⟨rfl,hb4⟩;obtain ⟨_,_,_,_,hA4,_⟩:=wz w hb4;clear hb4)
   | (go_at_call 8;refine (c8 _ (hTT _ _ hT bgo)).mono ?_;rintro r w1 ⟨rfl,hb1⟩;obtain ⟨_,_,_,_,hA1,_⟩:=wz w hb1;clear hb1)
   | (go_at_call 20;refine (c15 _).mono ?_;rintro r w2 ⟨rfl,hb2⟩;obtain ⟨_,_,_,_,hA2,_⟩:=wz w hb2;clear hb2)
   | (go_at_call 12;refine (c14 _).mono ?_;rintro r w3 ⟨rfl,rfl⟩)
   | (go_at_call 13;refine (c10 _).mono ?_;rintro r w3 ⟨rfl,rfl⟩))
  go_ret
  exact ⟨by first|rfl|simp,bgo⟩)
theorem tn18_3 (c x:Int)(s g ok:Bool)(k P Q X Y:Nat)(o F E1 E2:Int)(hd3:d=3)(ho4:o=4)(hS:X+Y<2^256)(hX:X<2^256)(hY:Y<2^256)
  (nm:ByteArray) (bs wd pr ex le mo pa:Int) (dn:Bool) (hwd:1<=wd/\wd<=1000)
  (c15:∀ W,CB 20 #[.int .i64 m,A4 Bp] W (.bool true))
  (c14:∀ W,CQ 12 #[.int .i64 t] W (.bool true))
  (c10:∀ W,CQ 13 #[.int .i64 d] W (.bool true))
  (c21:∀ W,CB 23 #[.int .i64 m,A4 Bp] W (.tuple #[DV c s g x k,.bool ok,.int .i64 0]))
  (c22:∀ W,CB 19 #[.int .i64 m,DV c false g x k] W (.tuple #[A4 P,.int .i64 E1]))
  (c23:∀ W,CB 19 #[.int .i64 m,DV c true g x k] W (.tuple #[A4 Q,.int .i64 E2]))
  (c12:∀ W,TT W->CB 9 #[.int .i64 m,.int .i64 t,.int .i64 d,A4 P] W (.tuple #[A4 X,.int .i64 F,.int .i64 0]))
  (c13:∀ W,TT W->CB 9 #[.int .i64 m,.int .i64 t,.int .i64 o,A4 Q] W (.tuple #[A4 (X+Y),.int .i64 F,.int .i64 0]))
  (c19:∀ W,CB 14 #[.int .i64 t] W (.tuple #[.agg #[.int .i64 t,.string nm,.int .i64 bs,.int .i64 wd,.int .i64 pr,.int .i64 ex,.int .i64 le,.int .i64 mo,.int .i64 pa,.bool dn],.int .i64 0]))
  (c24:∀ W v,NT 900 1 v W->CE 26 #[v,.int .i64 (wd-1)] W (NV 1000 Y))
  (c25:∀ W v,NV 1000 Y v W->CB 15 #[v] W (A4 Y))
  (cA:∀ W v v',Nt 4 X v W->Nt 4 Y v' W->CE 27 #[v,v'] W (NT 9 (X+Y)))
  (cB:∀ W v,NT 9 (X+Y) v W->CB 15 #[v] W (A4 (X+Y))) :
  CB 7 #[.int .i64 m,.int .i64 t,.int .i64 d,A4 Bp] w (.bool true):=by
 have hsm:=cell_set_map
 unfold A4 at c15 c21 c22 c23 c12 c13 c25 ⊢
 unfold DV at c21 c22 c23
 subst hd3 ho4
 go_enter Tryz.func7,Tryz.ntmps7
 go_upto_region 15 with (first
  | (go_at_call 8;refine (c8 _ (hTT _ _ hT bgo)).mono ?_;rintro r w1 ⟨rfl,hb1⟩;obtain ⟨_,_,_,_,hA1,_⟩:=wz w hb1;clear hb1)
  | (go_at_call 20;refine (c15 _).mono ?_;rintro r w2 ⟨rfl,hb2⟩;obtain ⟨_,_,_,_,hA2,_⟩:=wz w hb2;clear hb2)
  | (go_at_call 12;refine (c14 _).mono ?_;rintro r w3 ⟨rfl,rfl⟩)
  | (go_at_call 13;refine (c10 _).mono ?_;rintro r w3 ⟨rfl,rfl⟩)
  | (go_at_call 23;refine (c21 _).mono ?_;rintro r w4 ⟨rfl,hb4⟩;obtain ⟨_,_,_,_,hA4,_⟩:=wz w hb4;clear hb4)
  | (have:=hA5;go_at_call 19;refine (c23 _).mono ?_;rintro r w6 ⟨rfl,hb6⟩;obtain ⟨_,_,_,_,hA6,_⟩:=wz w hb6;obtain ⟨_,_⟩:=zf hb6 w4.heap.size;obtain ⟨_,_⟩:=zf hb6 w5.heap.size;clear hb6)
  | (go_at_call 19;refine (c22 _).mono ?_;rintro r w5 ⟨rfl,hb5⟩;obtain ⟨_,_,_,_,hA5,_⟩:=wz w hb5;obtain ⟨_,_⟩:=zf hb5 w4.heap.size;clear hb5)
  | (have:=hA7;go_at_call 9;refine (c13 _ (hTT _ _ hT bgo)).mono ?_;rintro r w8 ⟨rfl,hb8⟩;obtain ⟨_,_,_,_,hA8,_⟩:=wz w hb8 w4.heap.size;obtain ⟨_,_⟩:=zf hb8 w5.heap.size;obtain ⟨_,_⟩:=zf hb8 w6.heap.size;obtain ⟨_,_⟩:=zf hb8 w7.heap.size;clear hb8)
  | (go_at_call 9;refine (c12 _ (hTT _ _ hT bgo)).mono ?_;rintro r w7 ⟨rfl,hb7⟩;obtain ⟨_,_,_,_,hA7,_⟩:=wz w hb7 w4.heap.size;obtain ⟨_,_⟩:=zf hb7 w5.heap.size;obtain ⟨_,_⟩:=zf hb7 w6.heap.size;clear hb7)
  | (go_at_call 14;refine (c19 _).mono ?_;rintro r w9 ⟨rfl,hb9⟩;obtain ⟨_,_,_,_,hA9,_⟩:=wz w hb9 w7.heap.size;obtain ⟨_,_⟩:=zf hb9 w8.heap.size;clear hb9)
  | (go_at_call 26;refine (c24 _ _ (nt_oneB (by simp))).mono ?_;rintro r w10 ⟨v10,rfl,hv10,hb10⟩;have e7:w7.heap.size<w9.heap.size+1+1:=(by omega);have e8:w8.heap.size<w9.heap.size+1+1:=(by omega);have e9:w9.heap.size<w9.heap.size+1+1:=(by omega);obtain ⟨_,_,_,_,hA10,_⟩:=wz w hb10 w7.heap.size;obtain ⟨_,_⟩:=zf hb10 w8.heap.size;obtain ⟨_,_⟩:=zf hb10 w9.heap.size;clear hb10)
  | (go_at_call 15;refine (c25 _ _ hv10).mono ?_;rintro r w11 ⟨rfl,hb11⟩;obtain ⟨_,_,_,_,hA11,_⟩:=wz w hb11 w7.heap.size;obtain ⟨_,_⟩:=zf hb11 w8.heap.size;obtain ⟨_,_⟩:=zf hb11 w9.heap.size;clear hb11)
  | fail)
 refine regJ15 (gc:=w7.heap.size) (gb:=w11.heap.size) (ge:=w8.heap.size) (X:=X) (Y:=Y) (F:=F) rfl hS rfl rfl rfl rfl rfl (by first|(simp;done)|(simp;omega)) (by go_simp) (by go_simp) (by go_simp) (by go_simp) (nt_at0 hX (by first|(simp;done)|(simp;omega)) (by go_simp) (by go_simp) (by go_simp) (by go_simp)) (nt_at0 hY (by first|(simp;done)|(simp;omega)) (by go_simp) (by go_simp) (by go_simp) (by go_simp)) (fun W=>cA W _ _) cB ?_
 intro a12 w12 e8 hsz hdf hb12
 have hAf:=bnext (w0:=w) bgo hb12
 go_wp2
 refine bodyPost_ret (v:=.bool true) ?_ hdf ⟨rfl,hAf⟩
 unfold slot at e8
 rw [Array.getElem?_eq_getElem (by omega)] at e8
 simp only [results,Tryz.results7]
 go_simp
theorem tn18_4 (c x:Int)(s g ok:Bool)(k P Q X Y:Nat)(o F E1 E2:Int)(hd4:d=4)(ho3:o=3)(hS:X+Y<2^256)(hX:X<2^256)(hY:Y<2^256)
  (nm:ByteArray) (bs wd pr ex le mo pa:Int) (dn:Bool) (hwd:1<=wd/\wd<=1000)
  (c15:∀ W,CB 20 #[.int .i64 m,A4 Bp] W (.bool true))
  (c14:∀ W,CQ 12 #[.int .i64 t] W (.bool true))
  (c10:∀ W,CQ 13 #[.int .i64 d] W (.bool true))
  (c21:∀ W,CB 23 #[.int .i64 m,A4 Bp] W (.tuple #[DV c s g x k,.bool ok,.int .i64 0]))
  (c22:∀ W,CB 19 #[.int .i64 m,DV c false g x k] W (.tuple #[A4 P,.int .i64 E1]))
  (c23:∀ W,CB 19 #[.int .i64 m,DV c true g x k] W (.tuple #[A4 Q,.int .i64 E2]))
  (c12:∀ W,TT W->CB 9 #[.int .i64 m,.int .i64 t,.int .i64 d,A4 P] W (.tuple #[A4 X,.int .i64 F,.int .i64 0]))
  (c13:∀ W,TT W->CB 9 #[.int .i64 m,.int .i64 t,.int .i64 o,A4 Q] W (.tuple #[A4 (X+Y),.int .i64 F,.int .i64 0]))
  (c19:∀ W,CB 14 #[.int .i64 t] W (.tuple #[.agg #[.int .i64 t,.string nm,.int .i64 bs,.int .i64 wd,.int .i64 pr,.int .i64 ex,.int .i64 le,.int .i64 mo,.int .i64 pa,.bool dn],.int .i64 0]))
  (c24:∀ W v,NT 900 1 v W->CE 26 #[v,.int .i64 (wd-1)] W (NV 1000 Y))
  (c25:∀ W v,NV 1000 Y v W->CB 15 #[v] W (A4 Y))
  (cA:∀ W v v',Nt 4 X v W->Nt 4 Y v' W->CE 27 #[v,v'] W (NT 9 (X+Y)))
  (cB:∀ W v,NT 9 (X+Y) v W->CB 15 #[v] W (A4 (X+Y))) :
  CB 7 #[.int .i64 m,.int .i64 t,.int .i64 d,A4 Bp] w (.bool true):=by
 have hsm:=cell_set_map
 unfold A4 at c15 c21 c22 c23 c12 c13 c25 ⊢
 unfold DV at c21 c22 c23
 subst hd4 ho3
 go_enter Tryz.func7,Tryz.ntmps7
 go_upto_region 15 with (first
  | (go_at_call 8;refine (c8 _ (hTT _ _ hT bgo)).mono ?_;rintro r w1 ⟨rfl,hb1⟩;obtain ⟨_,_,_,_,hA1,_⟩:=wz w hb1;clear hb1)
  | (go_at_call 20;refine (c15 _).mono ?_;rintro r w2 ⟨rfl,hb2⟩;obtain ⟨_,_,_,_,hA2,_⟩:=wz w hb2;clear hb2)
  | (go_at_call 12;refine (c14 _).mono ?_;rintro r w3 ⟨rfl,rfl⟩)
  | (go_at_call 13;refine (c10 _).mono ?_;rintro r w3 ⟨rfl,rfl⟩)
  | (go_at_call 23;refine (c21 _).mono ?_;rintro r w4 ⟨rfl,hb4⟩;obtain ⟨_,_,_,_,hA4,_⟩:=wz w hb4;clear hb4)
  | (have:=hA5;go_at_call 19;refine (c23 _).mono ?_;rintro r w6 ⟨rfl,hb6⟩;obtain ⟨_,_,_,_,hA6,_⟩:=wz w hb6;obtain ⟨_,_⟩:=zf hb6 w4.heap.size;obtain ⟨_,_⟩:=zf hb6 w5.heap.size;clear hb6)
  | (go_at_call 19;refine (c22 _).mono ?_;rintro r w5 ⟨rfl,hb5⟩;obtain ⟨_,_,_,_,hA5,_⟩:=wz w hb5;obtain ⟨_,_⟩:=zf hb5 w4.heap.size;clear hb5)
  | (have:=hA7;go_at_call 9;refine (c13 _ (hTT _ _ hT bgo)).mono ?_;rintro r w8 ⟨rfl,hb8⟩;obtain ⟨_,_,_,_,hA8,_⟩:=wz w hb8 w4.heap.size;obtain ⟨_,_⟩:=zf hb8 w5.heap.size;obtain ⟨_,_⟩:=zf hb8 w6.heap.size;obtain ⟨_,_⟩:=zf hb8 w7.heap.size;clear hb8)
  | (go_at_call 9;refine (c12 _ (hTT _ _ hT bgo)).mono ?_;rintro r w7 ⟨rfl,hb7⟩;obtain ⟨_,_,_,_,hA7,_⟩:=wz w hb7 w4.heap.size;obtain ⟨_,_⟩:=zf hb7 w5.heap.size;obtain ⟨_,_⟩:=zf hb7 w6.heap.size;clear hb7)
  | (go_at_call 14;refine (c19 _).mono ?_;rintro r w9 ⟨rfl,hb9⟩;obtain ⟨_,_,_,_,hA9,_⟩:=wz w hb9 w7.heap.size;obtain ⟨_,_⟩:=zf hb9 w8.heap.size;clear hb9)
  | (go_at_call 26;refine (c24 _ _ (nt_oneB (by simp))).mono ?_;rintro r w10 ⟨v10,rfl,hv10,hb10⟩;have e7:w7.heap.size<w9.heap.size+1+1:=(by omega);have e8:w8.heap.size<w9.heap.size+1+1:=(by omega);have e9:w9.heap.size<w9.heap.size+1+1:=(by omega);obtain ⟨_,_,_,_,hA10,_⟩:=wz w hb10 w7.heap.size;obtain ⟨_,_⟩:=zf hb10 w8.heap.size;obtain ⟨_,_⟩:=zf hb10 w9.heap.size;clear hb10)
  | (go_at_call 15;refine (c25 _ _ hv10).mono ?_;rintro r w11 ⟨rfl,hb11⟩;obtain ⟨_,_,_,_,hA11,_⟩:=wz w hb11 w7.heap.size;obtain ⟨_,_⟩:=zf hb11 w8.heap.size;obtain ⟨_,_⟩:=zf hb11 w9.heap.size;clear hb11)
  | fail)
 refine regJ15 (gc:=w7.heap.size) (gb:=w11.heap.size) (ge:=w8.heap.size) (X:=X) (Y:=Y) (F:=F) rfl hS rfl rfl rfl rfl rfl (by first|(simp;done)|(simp;omega)) (by go_simp) (by go_simp) (by go_simp) (by go_simp) (nt_at0 hX (by first|(simp;done)|(simp;omega)) (by go_simp) (by go_simp) (by go_simp) (by go_simp)) (nt_at0 hY (by first|(simp;done)|(simp;omega)) (by go_simp) (by go_simp) (by go_simp) (by go_simp)) (fun W=>cA W _ _) cB ?_
 intro a12 w12 e8 hsz hdf hb12
 have hAf:=bnext (w0:=w) bgo hb12
 go_wp2
 refine bodyPost_ret (v:=.bool true) ?_ hdf ⟨rfl,hAf⟩
 unfold slot at e8
 rw [Array.getElem?_eq_getElem (by omega)] at e8
 simp only [results,Tryz.results7]
 go_simp
theorem tn18_d (c x:Int)(s g ok:Bool)(k P Q X Y:Nat)(o F E1 E2:Int)(hd3:(d==3)=false)(hd4:(d==4)=false)(hod:o=d)(hS:X+Y<2^256)(hX:X<2^256)(hY:Y<2^256)
  (nm:ByteArray) (bs wd pr ex le mo pa:Int) (dn:Bool) (hwd:1<=wd/\wd<=1000)
  (c15:∀ W,CB 20 #[.int .i64 m,A4 Bp] W (.bool true))
  (c14:∀ W,CQ 12 #[.int .i64 t] W (.bool true))
  (c10:∀ W,CQ 13 #[.int .i64 d] W (.bool true))
  (c21:∀ W,CB 23 #[.int .i64 m,A4 Bp] W (.tuple #[DV c s g x k,.bool ok,.int .i64 0]))
  (c22:∀ W,CB 19 #[.int .i64 m,DV c false g x k] W (.tuple #[A4 P,.int .i64 E1]))
  (c23:∀ W,CB 19 #[.int .i64 m,DV c true g x k] W (.tuple #[A4 Q,.int .i64 E2]))
  (c12:∀ W,TT W->CB 9 #[.int .i64 m,.int .i64 t,.int .i64 d,A4 P] W (.tuple #[A4 X,.int .i64 F,.int .i64 0]))
  (c13:∀ W,TT W->CB 9 #[.int .i64 m,.int .i64 t,.int .i64 o,A4 Q] W (.tuple #[A4 (X+Y),.int .i64 F,.int .i64 0]))
  (c19:∀ W,CB 14 #[.int .i64 t] W (.tuple #[.agg #[.int .i64 t,.string nm,.int .i64 bs,.int .i64 wd,.int .i64 pr,.int .i64 ex,.int .i64 le,.int .i64 mo,.int .i64 pa,.bool dn],.int .i64 0]))
  (c24:∀ W v,NT 900 1 v W->CE 26 #[v,.int .i64 (wd-1)] W (NV 1000 Y))
  (c25:∀ W v,NV 1000 Y v W->CB 15 #[v] W (A4 Y))
  (cA:∀ W v v',Nt 4 X v W->Nt 4 Y v' W->CE 27 #[v,v'] W (NT 9 (X+Y)))
  (cB:∀ W v,NT 9 (X+Y) v W->CB 15 #[v] W (A4 (X+Y))) :
  CB 7 #[.int .i64 m,.int .i64 t,.int .i64 d,A4 Bp] w (.bool true):=by
 have hsm:=cell_set_map
 unfold A4 at c15 c21 c22 c23 c12 c13 c25 ⊢
 unfold DV at c21 c22 c23
 subst hod
 go_enter Tryz.func7,Tryz.ntmps7
 go_upto_region 15 with (first
  | (go_at_call 8;refine (c8 _ (hTT _ _ hT bgo)).mono ?_;rintro r w1 ⟨rfl,hb1⟩;obtain ⟨_,_,_,_,hA1,_⟩:=wz w hb1;clear hb1)
  | (go_at_call 20;refine (c15 _).mono ?_;rintro r w2 ⟨rfl,hb2⟩;obtain ⟨_,_,_,_,hA2,_⟩:=wz w hb2;clear hb2)
  | (go_at_call 12;refine (c14 _).mono ?_;rintro r w3 ⟨rfl,rfl⟩)
  | (go_at_call 13;refine (c10 _).mono ?_;rintro r w3 ⟨rfl,rfl⟩)
  | (go_at_call 23;refine (c21 _).mono ?_;rintro r w4 ⟨rfl,hb4⟩;obtain ⟨_,_,_,_,hA4,_⟩:=wz w hb4;clear hb4)
  | (have:=hA5;go_at_call 19;refine (c23 _).mono ?_;rintro r w6 ⟨rfl,hb6⟩;obtain ⟨_,_,_,_,hA6,_⟩:=wz w hb6;obtain ⟨_,_⟩:=zf hb6 w4.heap.size;obtain ⟨_,_⟩:=zf hb6 w5.heap.size;clear hb6)
  | (go_at_call 19;refine (c22 _).mono ?_;rintro r w5 ⟨rfl,hb5⟩;obtain ⟨_,_,_,_,hA5,_⟩:=wz w hb5;obtain ⟨_,_⟩:=zf hb5 w4.heap.size;clear hb5)
  | (have:=hA7;go_at_call 9;refine (c13 _ (hTT _ _ hT bgo)).mono ?_;rintro r w8 ⟨rfl,hb8⟩;obtain ⟨_,_,_,_,hA8,_⟩:=wz w hb8 w4.heap.size;obtain ⟨_,_⟩:=zf hb8 w5.heap.size;obtain ⟨_,_⟩:=zf hb8 w6.heap.size;obtain ⟨_,_⟩:=zf hb8 w7.heap.size;clear hb8)
  | (go_at_call 9;refine (c12 _ (hTT _ _ hT bgo)).mono ?_;rintro r w7 ⟨rfl,hb7⟩;obtain ⟨_,_,_,_,hA7,_⟩:=wz w hb7 w4.heap.size;obtain ⟨_,_⟩:=zf hb7 w5.heap.size;obtain ⟨_,_⟩:=zf hb7 w6.heap.size;clear hb7)
  | (go_at_call 14;refine (c19 _).mono ?_;rintro r w9 ⟨rfl,hb9⟩;obtain ⟨_,_,_,_,hA9,_⟩:=wz w hb9 w7.heap.size;obtain ⟨_,_⟩:=zf hb9 w8.heap.size;clear hb9)
  | (go_at_call 26;refine (c24 _ _ (nt_oneB (by simp))).mono ?_;rintro r w10 ⟨v10,rfl,hv10,hb10⟩;have e7:w7.heap.size<w9.heap.size+1+1:=(by omega);have e8:w8.heap.size<w9.heap.size+1+1:=(by omega);have e9:w9.heap.size<w9.heap.size+1+1:=(by omega);obtain ⟨_,_,_,_,hA10,_⟩:=wz w hb10 w7.heap.size;obtain ⟨_,_⟩:=zf hb10 w8.heap.size;obtain ⟨_,_⟩:=zf hb10 w9.heap.size;clear hb10)
  | (go_at_call 15;refine (c25 _ _ hv10).mono ?_;rintro r w11 ⟨rfl,hb11⟩;obtain ⟨_,_,_,_,hA11,_⟩:=wz w hb11 w7.heap.size;obtain ⟨_,_⟩:=zf hb11 w8.heap.size;obtain ⟨_,_⟩:=zf hb11 w9.heap.size;clear hb11)
  | fail)
 refine regJ15 (gc:=w7.heap.size) (gb:=w11.heap.size) (ge:=w8.heap.size) (X:=X) (Y:=Y) (F:=F) rfl hS rfl rfl rfl rfl rfl (by first|(simp;done)|(simp;omega)) (by go_simp) (by go_simp) (by go_simp) (by go_simp) (nt_at0 hX (by first|(simp;done)|(simp;omega)) (by go_simp) (by go_simp) (by go_simp) (by go_simp)) (nt_at0 hY (by first|(simp;done)|(simp;omega)) (by go_simp) (by go_simp) (by go_simp) (by go_simp)) (fun W=>cA W _ _) cB ?_
 intro a12 w12 e8 hsz hdf hb12
 have hAf:=bnext (w0:=w) bgo hb12
 go_wp2
 refine bodyPost_ret (v:=.bool true) ?_ hdf ⟨rfl,hAf⟩
 unfold slot at e8
 rw [Array.getElem?_eq_getElem (by omega)] at e8
 simp only [results,Tryz.results7]
 go_simp
end
theorem ci_turn {t:Int}(d:Int)(hb:binN t)(c:Int)(g:Bool)(x:Int)(k:Nat):ciV t (othD d) ⟨c,true,g,x,k⟩=ciV t d ⟨c,false,g,x,k⟩+2^(fN t+eN t)/\ciF t (othD d) ⟨c,true,g,x,k⟩=ciF t d ⟨c,false,g,x,k⟩/\ciV t d ⟨c,false,g,x,k⟩<2^(fN t+eN t):=by
 by_cases h1:c=2∨c=3
 ·have e1:∀ e s,ciV t e ⟨c,s,g,x,k⟩=cvV t e ⟨c,s,g,x,k⟩/\ciF t e ⟨c,s,g,x,k⟩=cvF t e ⟨c,s,g,x,k⟩:=fun e s=>by
   unfold ciV ciF cvV cvF
   rcases h1 with h1|h1
   ·simp only [h1,if_true];exact ⟨trivial,trivial⟩
   ·simp only [h1,if_true,show ¬ (3:Int)=2 by decide,if_false];exact ⟨trivial,trivial⟩
  rw [(e1 _ _).1,(e1 _ _).1,(e1 _ _).2,(e1 _ _).2]
  exact cv_turn d hb c g x k
 ·have h2:¬ c=2:=fun e=>h1 (Or.inl e)
  have h3:¬ c=3:=fun e=>h1 (Or.inr e)
  unfold ciV ciF
  simp only [h2,h3,if_false]
  exact rd_turn d (tN k x) x hb (Nat.pos_iff_ne_zero.1 (Nat.pow_pos (by decide)))
theorem turns18_v {TT:World->Prop}(h:CrnC TT)(m t d:Int)(Bp:Nat)(w:World)(hT:TT w)(hB:Bp<2^256):CB 7 #[.int .i64 m,.int .i64 t,.int .i64 d,A4 Bp] w (.bool true):=by
 have c8:=fun W hW=>awake18 h W hW
 have c15:=fun W=>rgood14 m Bp hB W
 have c14:∀ W,CQ 12 #[.int .i64 t] W (.bool (decide (binN t))):=fun W=>(rbinary_any t W).mono fun r w' h=>⟨h.1,h.2.symm⟩
 have c10:=fun W=>rdir_any d W
 by_cases hg:xiG m t d Bp
 ·obtain ⟨h1,h2,h3⟩:=id hg
  rw [decide_eq_true h1] at c15
  rw [decide_eq_true h2] at c14
  rw [decide_eq_true h3] at c10
  have hi:=vM_is (fD_ok m) Bp
  have c21:=fun W=>runp14 m Bp W hB
  rw [show vUE m Bp=0 from if_pos h1,show vUD m Bp=vM (fD m) Bp from if_pos h1] at c21
  have hk:=vI_k (fD_ok m) hi
  generalize vM (fD m) Bp=D at *
  obtain ⟨c,s,g,x,k⟩:=D
  have hF:vI (fD m) ⟨c,false,g,x,k⟩:=hi
  have hTr:vI (fD m) ⟨c,true,g,x,k⟩:=hi
  have c22:=fun W=>rpk14 m ⟨c,false,g,x,k⟩ W hk
  have c23:=fun W=>rpk14 m ⟨c,true,g,x,k⟩ W hk
  rw [show vPV m ⟨c,false,g,x,k⟩=vP (fD m) ⟨c,false,g,x,k⟩ from if_pos ⟨h1.1,hF⟩] at c22
  rw [show vPV m ⟨c,true,g,x,k⟩=vP (fD m) ⟨c,true,g,x,k⟩ from if_pos ⟨h1.1,hTr⟩] at c23
  have ga:xiG m t d (vP (fD m) ⟨c,false,g,x,k⟩):=⟨⟨h1.1,vP_lt (fD_ok m) hF⟩,h2,h3⟩
  have gb:xiG m t (othD d) (vP (fD m) ⟨c,true,g,x,k⟩):=⟨⟨h1.1,vP_lt (fD_ok m) hTr⟩,h2,(kn_turn d).2 h3⟩
  have c12:=fun W hW=>h.cv m t d _ W (vP_256 (fD_ok m) hF) hW
  have c13:=fun W hW=>h.cv m t (othD d) _ W (vP_256 (fD_ok m) hTr) hW
  unfold xiV xiF xiE at c12 c13
  rw [if_pos ga,if_pos ga,if_pos ga,vM_vP (fD_ok m) hF] at c12
  obtain ⟨t1,t2,t3⟩:=ci_turn d h2 c g x k
  rw [if_pos gb,if_pos gb,if_pos gb,vM_vP (fD_ok m) hTr,t1,t2] at c13
  obtain ⟨hok,hb2,hpr,hex,hwd,hpy⟩:=bin_fields h2
  have c19:=fun W=>rofv_any t W
  have hfe:fN t+eN t<=300:=by rcases bin_cases h2 with rfl|rfl|rfl|rfl|rfl|rfl<;>decide
  have hpw:(2:Nat)^(fN t+eN t)<=2^255:=by
   have:fN t+eN t<=255:=by rcases bin_cases h2 with rfl|rfl|rfl|rfl|rfl|rfl<;>decide
   exact Nat.pow_le_pow_right (by decide) this
  have h255:(2:Nat)^255+2^255=2^256:=by decide
  have hw1:widthN t=(fN t:Int)+eN t+1:=by rcases bin_cases h2 with rfl|rfl|rfl|rfl|rfl|rfl<;>decide
  have hnt:numN t=t:=by rcases bin_cases h2 with rfl|rfl|rfl|rfl|rfl|rfl<;>decide
  have hwd2:1<=widthN t/\widthN t<=1000:=by omega
  have c24:∀ W v,NT 900 1 v W->CE 26 #[v,.int .i64 (widthN t-1)] W (NV 1000 (2^(fN t+eN t))):=fun W v hv=>by
   have q:=rleft_nv (fN t+eN t) (by decide) (by omega) hv.nv
   rw [show ((fN t+eN t:Nat):Int)=widthN t-1 by omega,Nat.one_mul] at q
   exact q.mono fun r w' ⟨u,e1,e2,e3⟩=>⟨u,e1,e2.more (by omega),e3⟩
  rw [show infoE t=0 from if_pos hok,hnt] at c19
  have ho:(d=3/\othD d=4)∨(d=4/\othD d=3)∨((d==3)=false/\(d==4)=false/\othD d=d):=by
   unfold othD
   by_cases q3:d=3
   ·left;subst q3;exact ⟨rfl,rfl⟩
   ·by_cases q4:d=4
    ·right;left;subst q4;exact ⟨rfl,rfl⟩
    ·right;right
     rw [if_neg (by omega)]
     exact ⟨by simpa using q3,by simpa using q4,rfl⟩
  rcases ho with ⟨o1,o2⟩|⟨o1,o2⟩|⟨o1,o2,o3⟩
  ·exact tn18_3 TT h.next w hT c8 m t d Bp c x s g _ k _ _ _ _ _ _ _ _ o1 o2 (by omega) (by omega) (by omega) _ _ _ _ _ _ _ _ _ hwd2 c15 c14 c10 c21 c22 c23 c12 c13 c19 c24 (fun W v hv=>bits_nv hv) (fun W v v' hv hv'=>radd_no (by decide) (by decide) hv hv') (fun W v hv=>bits_nv hv.nv)
  ·exact tn18_4 TT h.next w hT c8 m t d Bp c x s g _ k _ _ _ _ _ _ _ _ o1 o2 (by omega) (by omega) (by omega) _ _ _ _ _ _ _ _ _ hwd2 c15 c14 c10 c21 c22 c23 c12 c13 c19 c24 (fun W v hv=>bits_nv hv) (fun W v v' hv hv'=>radd_no (by decide) (by decide) hv hv') (fun W v hv=>bits_nv hv.nv)
  ·exact tn18_d TT h.next w hT c8 m t d Bp c x s g _ k _ _ _ _ _ _ _ _ o1 o2 o3 (by omega) (by omega) (by omega) _ _ _ _ _ _ _ _ _ hwd2 c15 c14 c10 c21 c22 c23 c12 c13 c19 c24 (fun W v hv=>bits_nv hv) (fun W v v' hv hv'=>radd_no (by decide) (by decide) hv hv') (fun W v hv=>bits_nv hv.nv)
 ·exact tn18_n TT h.next w hT c8 m t d Bp _ _ _ (xi_not hg) c15 c14 c10
end
section
attribute [local irreducible] W4
theorem ttwin_y (n t:Int)(w:World)(h:(n=7/\t=10)∨(n=8/\t=11)∨(n=9/\t=12)∨(n=10/\t=7)∨(n=11/\t=8)∨(n=12/\t=9)) :
  CB 21 #[.int .i64 n] w (.tuple #[.int .i64 t,.int .i64 0]):=by
 rcases h with ⟨rfl,rfl⟩|⟨rfl,rfl⟩|⟨rfl,rfl⟩|⟨rfl,rfl⟩|⟨rfl,rfl⟩|⟨rfl,rfl⟩
 all_goals
  go_enter Tryz.func21,Tryz.ntmps21
  go_wp2
  exact bodyPost_ret (by simp only [results,Tryz.results21];go_simp) rfl ⟨rfl,bgo⟩
theorem ttwin_n (n:Int)(w:World)(h7:(n==7)=false)(h8:(n==8)=false)(h9:(n==9)=false)(h10:(n==10)=false)(h11:(n==11)=false)(h12:(n==12)=false) :
  CB 21 #[.int .i64 n] w (.tuple #[.int .i64 0,.int .i64 1]):=by
 go_enter Tryz.func21,Tryz.ntmps21
 go_wp2
 exact bodyPost_ret (by simp only [results,Tryz.results21];go_simp) rfl ⟨rfl,bgo⟩
theorem ttwin17 (n:Int)(w:World):CB 21 #[.int .i64 n] w (.tuple #[.int .i64 (twV n),.int .i64 (twE n)]):=by
 unfold twV twE
 by_cases h:decN n
 ·rw [if_pos h,if_pos h]
  have h1:7<=n/\n<=12:=h
  refine ttwin_y n _ w ?_
  unfold twN
  by_cases h9:n<=9
  ·rw [if_pos h9];omega
  ·rw [if_neg h9];omega
 ·rw [if_neg h,if_neg h]
  have h1:¬ (7<=n/\n<=12):=h
  exact ttwin_n n w (beq_false_of_ne (by omega)) (beq_false_of_ne (by omega)) (beq_false_of_ne (by omega)) (beq_false_of_ne (by omega)) (beq_false_of_ne (by omega)) (beq_false_of_ne (by omega))
section
variable (n:Int)(Bp:Nat)(c:Int)(s g ok:Bool)(x:Int)(k:Nat)(w:World)(hT:Tab w)
include hT
theorem tcd_t (t E:Int)(hE:(E != 0)=true)(c22:∀ W,CB 21 #[.int .i64 n] W (.tuple #[.int .i64 t,.int .i64 E])) :
  CB 22 #[.int .i64 n,A4 Bp] w (.tuple #[Z4,.int .i64 E]):=by
 have hsm:=cell_set_map
 unfold A4 at *
 go_enter Tryz.func22,Tryz.ntmps22
 go_wp2_with (go_at_call 21;refine (c22 _).mono ?_;rintro r w1 ⟨rfl,hb1⟩;obtain ⟨_,_,_,_,hA1,_⟩:=wz w hb1;obtain ⟨_,_⟩:=zf hb1 (w.heap.size+1);clear hb1)
 exact bodyPost_ret (v:=.tuple #[Z4,.int .i64 E]) (by simp only [results,Tryz.results22];go_simp) rfl ⟨rfl,bgo⟩
theorem tcd_e (t E:Int)(hE:(E != 0)=true)(c22:∀ W,CB 21 #[.int .i64 n] W (.tuple #[.int .i64 t,.int .i64 0]))
  (c21:∀ W,Tab W->CB 28 #[.int .i64 n,A4 Bp] W (.tuple #[DV c s g x k,.bool ok,.int .i64 E])) :
  CB 22 #[.int .i64 n,A4 Bp] w (.tuple #[Z4,.int .i64 E]):=by
 have hsm:=cell_set_map
 unfold DV A4 at *
 go_enter Tryz.func22,Tryz.ntmps22
 go_wp2_with (first
  | (go_at_call 21;refine (c22 _).mono ?_;rintro r w1 ⟨rfl,hb1⟩;obtain ⟨_,_,_,_,hA1,_⟩:=wz w hb1;obtain ⟨_,_⟩:=zf hb1 (w.heap.size+1);clear hb1)
  | (go_at_call 28;refine (c21 _ (hT.go bgo)).mono ?_;rintro r w2 ⟨rfl,hb2⟩;obtain ⟨_,_,_,_,hA2,_⟩:=wz w hb2;obtain ⟨_,_⟩:=zf hb2 (w.heap.size+1);clear hb2))
 exact bodyPost_ret (v:=.tuple #[Z4,.int .i64 E]) (by simp only [results,Tryz.results22];go_simp) rfl ⟨rfl,bgo⟩
theorem tcd_k (t:Int)(R:Nat)(E:Int)(c22:∀ W,CB 21 #[.int .i64 n] W (.tuple #[.int .i64 t,.int .i64 0]))
  (c21:∀ W,Tab W->CB 28 #[.int .i64 n,A4 Bp] W (.tuple #[DV c s g x k,.bool ok,.int .i64 0]))
  (c23:∀ W,Tab W->CB 48 #[.int .i64 t,DV c s g x k] W (.tuple #[A4 R,.int .i64 E])) :
  CB 22 #[.int .i64 n,A4 Bp] w (.tuple #[A4 R,.int .i64 E]):=by
 have hsm:=cell_set_map
 unfold DV A4 at *
 go_enter Tryz.func22,Tryz.ntmps22
 go_wp2_with (first
  | (go_at_call 21;refine (c22 _).mono ?_;rintro r w1 ⟨rfl,hb1⟩;obtain ⟨_,_,_,_,hA1,_⟩:=wz w hb1;obtain ⟨_,_⟩:=zf hb1 (w.heap.size+1);clear hb1)
  | (go_at_call 28;refine (c21 _ (hT.go bgo)).mono ?_;rintro r w2 ⟨rfl,hb2⟩;obtain ⟨_,_,_,_,hA2,_⟩:=wz w hb2;obtain ⟨_,_⟩:=zf hb2 (w.heap.size+1);clear hb2)
  | (go_at_call 48;refine (c23 _ (hT.go bgo)).mono ?_;rintro r w3 ⟨rfl,hb3⟩;obtain ⟨_,_,_,_,hA3,_⟩:=wz w hb3;obtain ⟨_,_⟩:=zf hb3 (w.heap.size+1);clear hb3))
 exact bodyPost_ret (v:=.tuple #[A4 R,.int .i64 E]) (by unfold A4;simp only [results,Tryz.results22];go_simp) rfl ⟨rfl,bgo⟩
end
theorem tcode17 (n:Int)(Bp:Nat)(w:World)(hB:Bp<2^256)(hT:Tab w) :
  CB 22 #[.int .i64 n,A4 Bp] w (.tuple #[A4 (tcV n Bp),.int .i64 (vUE n Bp)]):=by
 have c21:=fun W hW=>dunpk14 n Bp hB W hW
 have c22:=fun W=>ttwin17 n W
 by_cases hg:goodD n Bp
 ·have e1:vUE n Bp=0:=if_pos hg
  have e2:vUD n Bp=vM (fD n) Bp:=if_pos hg
  rw [show twV n=twN n from if_pos hg.1,show twE n=0 from if_pos hg.1] at c22
  have c23:=fun W hW=>dpack14 (twN n) (vM (fD n) Bp) (by rw [← e2];exact vUD_256 n Bp) W hW
  obtain ⟨p1,p2⟩:=tc_pack hg
  rw [p1,p2] at c23
  rw [e1,e2] at c21
  rw [e1]
  exact tcd_k n Bp _ _ _ _ _ _ w hT (twN n) _ _ c22 c21 c23
 ·have e1:vUE n Bp=1:=if_neg hg
  have hZ:A4 0=Z4:=by unfold A4;simp only [W4_zero]
  rw [show tcV n Bp=0 from if_neg hg,e1,hZ]
  rw [e1] at c21
  by_cases hd:decN n
  ·rw [show twV n=twN n from if_pos hd,show twE n=0 from if_pos hd] at c22
   exact tcd_e n Bp _ _ _ _ _ _ w hT _ 1 (by decide) c22 c21
  ·rw [show twE n=1 from if_neg hd] at c22
   exact tcd_t n Bp w hT _ 1 (by decide) c22
theorem trcC:TrcC Tab where
 next:=fun w w' hT hb=>hT.go hb
 tw:=fun n W _=>ttwin17 n W
 cd:=fun n Bp W hB hT=>tcode17 n Bp W hB hT
end
theorem crossinConverts_any (m t d:Int)(Bp:Nat)(w:World)(hT:Tab w)(hB:Bp<2^256) :
  CB 3 #[.int .i64 m,.int .i64 t,.int .i64 d,A4 Bp] w (.bool true) :=
 converts18_v crnC m t d Bp w hT hB
theorem crossinTwins_any (m t d:Int)(Bp:Nat)(w:World)(hT:Tab w)(hB:Bp<2^256) :
  CB 5 #[.int .i64 m,.int .i64 t,.int .i64 d,A4 Bp] w (.bool true) :=
 twins18_v crnC m t d Bp w hT hB trcC
theorem crossinTurns_any (m t d:Int)(Bp:Nat)(w:World)(hT:Tab w)(hB:Bp<2^256) :
  CB 7 #[.int .i64 m,.int .i64 t,.int .i64 d,A4 Bp] w (.bool true) :=
 turns18_v crnC m t d Bp w hT hB
theorem crossinCohorts_any (n t d C e m:Int)(s:Bool)(w:World)(hT:Tab w)(hC:0<=C/\C<=4294967295)(he:-32768<=e/\e<=32767)(hm:0<=m/\m<=255) :
  CB 4 #[.int .i64 n,.int .i64 t,.int .i64 d,.int .u32 C,.int .i16 e,.int .u8 m,.bool s] w (.bool true):=by
 obtain ⟨c,rfl⟩:∃ c:Nat,C=(c:Int):=⟨C.toNat,by omega⟩
 exact cohorts18_v crnC n t d m e c s w hT (by omega) he hm
end Go.Proofs.YtjfeaiaafbaobaaGreatDoor
