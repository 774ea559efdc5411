/-
  Texts that the proof leans on, joined: Vl, Vm.
-/
import Derived.Test.YtpabnhlfbjkmaaaGreatDoorL1
import Derived.Test.YtpabnhlfbjkmaaaGreatDoorL35
import Derived.Test.YtpabnhlfbjkmaaaGreatDoorL29
import Derived.Test.YtpabnhlfbjkmaaaGreatDoorL27
import Derived.Test.YtpabnhlfbjkmaaaGreatDoorL23
set_option linter.unusedVariables false
set_option linter.unusedSectionVars false
set_option linter.unusedSimpArgs false
set_option maxHeartbeats 8000000
set_option maxRecDepth 20000
namespace Go.Proofs.YtpabnhlfbjkmaaaGreatDoor
open Go.RowKit
structure VC (n:Int) (B:Nat):Prop where
 cO:∀ W,CB 19 #[.int .i64 n] W (.tuple #[IDec n (nameN n) (((fD n).t+((fD n).w+6):Nat):Int) (3*((fD n).j:Int)+1) (expN n) (fD n).l ((fD n).l+3*2^(fD n).w-1) (3*((fD n).j:Int)) (fD n).dn,.int .i64 0])
 cS:∀ W,CB 52 #[IDec n (nameN n) (((fD n).t+((fD n).w+6):Nat):Int) (3*((fD n).j:Int)+1) (expN n) (fD n).l ((fD n).l+3*2^(fD n).w-1) (3*((fD n).j:Int)) (fD n).dn] W (.tuple #[.int .i64 (((fD n).w:Int)+5),.int .i64 ((fD n).t:Int),.int .i64 ((fD n).j:Int)])
 cF1:∀ W,CE 59 #[A4 B,.int .i64 ((fD n).t:Int),.int .i64 (((fD n).w:Int)+5)] W (NT 19 (vG (fD n) B))
 cF2:∀ W,CE 59 #[A4 B,.int .i64 0,.int .i64 ((fD n).t:Int)] W (NT 19 (vR (fD n) B))
 cF3:∀ W,CE 59 #[A4 B,.int .i64 (((fD n).t:Int)+(((fD n).w:Int)+5)),.int .i64 1] W (NT 19 (B/2^((fD n).t+((fD n).w+5))%2))
 cM1:∀ W v,NT 19 (vG (fD n) B) v W->CQ 57 #[v] W (.int .i64 (vG (fD n) B:Int))
 cM3:∀ W v,NT 19 (B/2^((fD n).t+((fD n).w+5))%2) v W->CQ 57 #[v] W (.int .i64 ((B/2^((fD n).t+((fD n).w+5))%2:Nat):Int))
 cB2:∀ W v,NT 19 (vR (fD n) B) v W->CB 22 #[v] W (A4 (vR (fD n) B))
 hAb:(vG (fD n) B:Int)<=200000
 hV:(vG (fD n) B:Int)/2^(fD n).w=((vV (fD n).w (vG (fD n) B):Nat):Int)
 hV1:vV (fD n).w (vG (fD n) B)<=31
 hsg:(((B/2^((fD n).t+((fD n).w+5))%2:Nat):Int) == 1)=vS (fD n) B
theorem g_lim {f:DF} (h:f.ok) (B:Nat):vG f B<131072:=by
 have:=vG_lt f B
 rcases h with ⟨h1,h2,h3,h4⟩ | ⟨h1,h2,h3,h4⟩ | ⟨h1,h2,h3,h4⟩ <;> rw [h2] at this <;> simp only [Nat.reducePow,Nat.reduceAdd] at this <;> omega
theorem vc_of {n:Int} (h:decN n) (B:Nat) (hB:B<2^256):VC n B:=by
 have ho:=fD_ok n
 obtain ⟨w6,w12,t20,t110,j2,j11,t64,l0,l1,H0,H1⟩:=ok_bounds ho
 have hg:=g_lim ho B
 refine ⟨fun W=>rof_dec h W,fun W=>dec_shape h _ _ _ _ _ _ W,fun W=>?_,fun W=>?_,fun W=>?_,fun W v hv=>?_,fun W v hv=>?_,fun W v hv=>bits_nv hv.nv,by omega,?_,?_,?_⟩
 ·have:=field_any B (fD n).t ((fD n).w+5) W hB (by omega) (by omega)
  rw [show (((fD n).w+5:Nat):Int)=((fD n).w:Int)+5 by omega] at this
  exact this
 ·have:=field_any B 0 (fD n).t W hB (by decide) (by omega)
  rw [Nat.pow_zero,Nat.div_one] at this
  exact this
 ·have:=field_any B ((fD n).t+((fD n).w+5)) 1 W hB (by omega) (by decide)
  rw [show (((fD n).t+((fD n).w+5):Nat):Int)=((fD n).t:Int)+(((fD n).w:Int)+5) by omega,Nat.pow_one] at this
  exact this
 ·exact (number_wide hv.nv (by decide) (by omega)).mono fun r w' ⟨e1,e2⟩=>⟨e1,e2.symm⟩
 ·exact (number_wide hv.nv (by decide) (by omega)).mono fun r w' ⟨e1,e2⟩=>⟨e1,e2.symm⟩
 ·unfold vV
  rw [← powCast,Int.natCast_ediv]
 ·have:=vG_lt (fD n) B
  rw [Nat.pow_add] at this
  unfold vV
  have:vG (fD n) B/2^(fD n).w<32:=by rw [Nat.div_lt_iff_lt_mul (Nat.two_pow_pos _),Nat.mul_comm];exact this
  omega
 ·unfold vS
  rw [Bool.eq_iff_iff]
  simp only [beq_iff_eq,decide_eq_true_eq]
  omega
theorem cU_of {n:Int} (B:Nat):∀ W,CB 94 #[A4 (vR (fD n) B),.int .i64 ((fD n).j:Int)] W (.tuple #[A4 (dlU (fD n).j (vR (fD n) B)),.int .i64 0]):=fun W=>by
 have ho:=fD_ok n
 obtain ⟨w6,w12,t20,t110,j2,j11,t64,l0,l1,H0,H1⟩:=ok_bounds ho
 have hr:=vR_lt (fD n) B
 have p2:=p_200 (a:=(fD n).t) (by omega)
 have p3:(2:Nat)^220<2^256:=by decide
 have:=rupk_any (vR (fD n) B) ((fD n).j:Int) W (by omega)
 have c1:(0:Int)<=((fD n).j:Int)/\((fD n).j:Int)<=11:=by omega
 rw [ho.pt] at hr
 unfold dUv dUe at this
 rw [if_pos c1,if_pos c1,Int.toNat_natCast,if_pos hr,if_pos hr] at this
 exact this
theorem vmean_s {n:Int} (h:decN n) (B:Nat) (w:World) (hB:B<2^256) (h30:vV (fD n).w (vG (fD n) B)=30∨vV (fD n).w (vG (fD n) B)=31) :
  Calls Tryz.prog 47 #[.int .i64 n,A4 B] w fun r w'=>r=.returned (vM (fD n) B).v/\Below w.heap.size w w':=by
 have ho:=fD_ok n
 obtain ⟨w6,w12,t20,t110,j2,j11,t64,l0,l1,H0,H1⟩:=ok_bounds ho
 have C:=vc_of h B hB
 have hg:=g_lim ho B
 have hr:=vR_lt (fD n) B
 have p2:=p_200 (a:=(fD n).t) (by omega)
 have p3:(2:Nat)^220<2^256:=by decide
 unfold vM vD
 by_cases e30:vV (fD n).w (vG (fD n) B)=30
 ·rw [if_pos e30]
  have:=vmn_i n _ _ _ _ _ _ _ _ _ _ B _ _ _ _ _ (fD n).w w (by omega) (by omega) (by omega) (by omega) (by omega) (by omega) C.hAb C.cF1 C.cF2 C.cF3 C.cM1 C.cM3 C.cB2 (by omega) w12 C.hV (by omega) (by have:=C.hV1;omega) C.hsg _ C.cO C.cS (by rw [e30];rfl)
  rw [show (Dat.mk 2 (vS (fD n) B) false 0 0).v=.agg #[.int .i64 2,.bool (vS (fD n) B),.bool false,.int .i64 0,.int .u64 0,.int .u64 0,.int .u64 0,.int .u64 0] by unfold Dat.v DV;simp only [W4_zero]]
  exact this
 ·have e31:vV (fD n).w (vG (fD n) B)=31:=by omega
  rw [if_neg e30,if_pos e31]
  have hgg:(bits .and .u64 ((vG (fD n) B:Int)/2^((fD n).w-1)) 1 == 1)=decide (vG (fD n) B/2^((fD n).w-1)%2=1):=by
   have hle:vG (fD n) B/2^((fD n).w-1)<=vG (fD n) B:=Nat.div_le_self _ _
   have:=and_lay (vG (fD n) B/2^((fD n).w-1)) 1 (by decide) (by omega)
   rw [Int.natCast_ediv,powCast] at this
   rw [show (((2^1:Nat):Int)-1)=1 by decide] at this
   rw [this,Nat.pow_one,Bool.eq_iff_iff]
   simp only [beq_iff_eq,decide_eq_true_eq]
   omega
  have b30:(((vV (fD n).w (vG (fD n) B):Nat):Int) == 30)=false:=by rw [e31];rfl
  have b31:(((vV (fD n).w (vG (fD n) B):Nat):Int) == 31)=true:=by rw [e31];rfl
  have cO:=C.cO
  have cS:=C.cS
  cases hdn:(fD n).dn
  ·rw [hdn] at cO cS
   have eT:vT (fD n) (vR (fD n) B)=vR (fD n) B:=by unfold vT;rw [hdn];rfl
   rw [eT]
   have cW:=fun W=>rbelowt (vR (fD n) B) (3*(fD n).j) W (by omega) (by omega)
   rw [show ((3*(fD n).j:Nat):Int)=3*((fD n).j:Int) by omega] at cW
   by_cases hlt:vR (fD n) B<10^(3*(fD n).j)
   ·rw [decide_eq_true hlt] at cW
    rw [if_pos hlt]
    exact vmn_nfy n _ _ _ _ _ _ _ _ _ _ B _ _ _ _ _ (fD n).w w (by omega) (by omega) (by omega) (by omega) (by omega) (by omega) C.hAb C.cF1 C.cF2 C.cF3 C.cM1 C.cM3 C.cB2 (by omega) w12 C.hV (by omega) (by have:=C.hV1;omega) C.hsg ((fD n).w-1) _ cO cS b30 b31 (by omega) (by omega) hgg cW
   ·rw [decide_eq_false hlt] at cW
    rw [if_neg hlt]
    have:=vmn_nfn n _ _ _ _ _ _ _ _ _ _ B _ _ _ _ _ (fD n).w w (by omega) (by omega) (by omega) (by omega) (by omega) (by omega) C.hAb C.cF1 C.cF2 C.cF3 C.cM1 C.cM3 C.cB2 (by omega) w12 C.hV (by omega) (by have:=C.hV1;omega) C.hsg ((fD n).w-1) _ cO cS b30 b31 (by omega) (by omega) hgg cW
    rw [show (Dat.mk 3 (vS (fD n) B) (decide (vG (fD n) B/2^((fD n).w-1)%2=1)) 0 0).v=.agg #[.int .i64 3,.bool (vS (fD n) B),.bool (decide (vG (fD n) B/2^((fD n).w-1)%2=1)),.int .i64 0,.int .u64 0,.int .u64 0,.int .u64 0,.int .u64 0] by unfold Dat.v DV;simp only [W4_zero]]
    exact this
  ·rw [hdn] at cO cS
   have eT:vT (fD n) (vR (fD n) B)=dlU (fD n).j (vR (fD n) B):=by unfold vT;rw [hdn];rfl
   have hlt:dlU (fD n).j (vR (fD n) B)<10^(3*(fD n).j):=by rw [ten3];exact dlU_lt _ _
   rw [eT,if_pos hlt]
   have hU:=dlU_256 (fD n).j (vR (fD n) B) j11
   have cW:=fun W=>rbelowt (dlU (fD n).j (vR (fD n) B)) (3*(fD n).j) W hU (by omega)
   rw [show ((3*(fD n).j:Nat):Int)=3*((fD n).j:Int) by omega,decide_eq_true hlt] at cW
   exact vmn_nty n _ _ _ _ _ _ _ _ _ _ B _ _ _ _ _ (fD n).w w (by omega) (by omega) (by omega) (by omega) (by omega) (by omega) C.hAb C.cF1 C.cF2 C.cF3 C.cM1 C.cM3 C.cB2 (by omega) w12 C.hV (by omega) (by have:=C.hV1;omega) C.hsg ((fD n).w-1) _ _ cO cS b30 b31 (by omega) (by omega) hgg (cU_of B) cW
theorem sgn_below {A B:Nat} (h:A<B):¬ (0:Int)<=sgn (A:Int) (B:Int):=by
 rcases sgn_ways (A:Int) (B:Int) with ⟨a,e⟩ | ⟨a,e⟩ | ⟨a,e⟩ <;> omega
theorem sgn_above {A B:Nat} (h:¬ A<B):(0:Int)<=sgn (A:Int) (B:Int):=by
 rcases sgn_ways (A:Int) (B:Int) with ⟨a,e⟩ | ⟨a,e⟩ | ⟨a,e⟩ <;> omega
theorem vmean_d {n:Int} (h:decN n) (hdn:(fD n).dn=true) (B:Nat) (w:World) (hB:B<2^256) (h30:vV (fD n).w (vG (fD n) B)≠30) (h31:vV (fD n).w (vG (fD n) B)≠31) :
  Calls Tryz.prog 47 #[.int .i64 n,A4 B] w fun r w'=>r=.returned (vM (fD n) B).v/\Below w.heap.size w w':=by
 have ho:=fD_ok n
 obtain ⟨w6,w12,t20,t110,j2,j11,t64,l0,l1,H0,H1⟩:=ok_bounds ho
 have Cc:=vc_of h B hB
 have hg:=g_lim ho B
 have hr:=vR_lt (fD n) B
 have p2:=p_200 (a:=(fD n).t) (by omega)
 have p3:(2:Nat)^220<2^256:=by decide
 have cO:=Cc.cO
 have cS:=Cc.cS
 rw [hdn] at cO cS
 have b30:(((vV (fD n).w (vG (fD n) B):Nat):Int) == 30)=false:=by rw [beq_eq_false_iff_ne];omega
 have b31:(((vV (fD n).w (vG (fD n) B):Nat):Int) == 31)=false:=by rw [beq_eq_false_iff_ne];omega
 have hH:(2:Int)^(fD n).w=((2^(fD n).w:Nat):Int):=(powCast _).symm
 have hV1:=Cc.hV1
 have hVe:=Cc.hV
 have hvv:vV (fD n).w (vG (fD n) B)=vG (fD n) B/2^(fD n).w:=rfl
 have hlow:vG (fD n) B%2^(fD n).w<2^(fD n).w:=Nat.mod_lt _ (Nat.two_pow_pos _)
 have cQ:∀ W,CE 25 #[.int .u64 10,.int .i64 (3*((fD n).j:Int)+1)] W (NV 50000 (10^(3*(fD n).j+1))):=fun W=>by
  have:=rpowt_nv (3*(fD n).j+1) W (by omega)
  rw [show ((3*(fD n).j+1:Nat):Int)=3*((fD n).j:Int)+1 by omega] at this
  exact this
 have hU:=dlU_256 (fD n).j (vR (fD n) B) j11
 have hUt:dlU (fD n).j (vR (fD n) B)<10^(3*(fD n).j):=by rw [ten3];exact dlU_lt _ _
 have cU:=cU_of (n:=n) B
 have hL:=and_lay (vG (fD n) B) (fD n).w (by omega) (by omega)
 have cP:∀ W,CE 25 #[.int .u64 10,.int .i64 (3*((fD n).j:Int))] W (NV 50000 (10^(3*(fD n).j))):=fun W=>by
  have:=rpowt_nv (3*(fD n).j) W (by omega)
  rw [show ((3*(fD n).j:Nat):Int)=3*((fD n).j:Int) by omega] at this
  exact this
 have eM:vM (fD n) B=⟨1,vS (fD n) B,false,(vF true (fD n).w (vG (fD n) B):Int)+(fD n).l,vL true (fD n).w (vG (fD n) B)*10^(3*(fD n).j)+dlU (fD n).j (vR (fD n) B)⟩:=by
  have hq:vQ (fD n)=10^(3*(fD n).j):=by unfold vQ;rw [hdn];rfl
  have ht:vT (fD n) (vR (fD n) B)=dlU (fD n).j (vR (fD n) B):=by unfold vT;rw [hdn];rfl
  unfold vM vD
  rw [if_neg h30,if_neg h31,hdn,hq,ht,if_pos]
  have h9:vL true (fD n).w (vG (fD n) B)<=9:=by unfold vL;simp only [if_true];split <;> omega
  have:=Nat.mul_le_mul_right (10^(3*(fD n).j)) h9
  rw [Nat.pow_succ]
  omega
 have hClt:vL true (fD n).w (vG (fD n) B)*10^(3*(fD n).j)+dlU (fD n).j (vR (fD n) B)<10^(3*(fD n).j+1):=by
  have h9:vL true (fD n).w (vG (fD n) B)<=9:=by unfold vL;simp only [if_true];split <;> omega
  have:=Nat.mul_le_mul_right (10^(3*(fD n).j)) h9
  rw [Nat.pow_succ]
  omega
 rw [eM]
 generalize vV (fD n).w (vG (fD n) B)=V at *
 have hF0:∀ q,q<=2->q*2^(fD n).w<=2*4096:=fun q hq=>Nat.mul_le_mul hq H1
 by_cases h24:V<24
 ·have eF:vF true (fD n).w (vG (fD n) B)=V/8*2^(fD n).w+vG (fD n) B%2^(fD n).w:=by unfold vF vV;simp only [if_true];rw [← hvv,if_pos h24]
  have eL:vL true (fD n).w (vG (fD n) B)=V%8:=by unfold vL vV;simp only [if_true];rw [← hvv,if_pos h24]
  rw [eF,eL]
  rw [eL] at hClt
  have q8:=hF0 (V/8) (by omega)
  have o1:=or_lay (V/8) (vG (fD n) B%2^(fD n).w) (fD n).w hlow (by omega)
  rw [Int.natCast_mul] at o1
  have o2:=and_lay V 3 (by decide) (by omega)
  rw [show (((2^3:Nat):Int)-1)=7 by decide,show V%2^3=V%8 from rfl] at o2
  exact vmn_ds n _ _ _ _ _ _ _ _ _ _ B _ _ _ _ _ (fD n).w w (by omega) (by omega) (by omega) (by omega) (by omega) (by omega) Cc.hAb Cc.cF1 Cc.cF2 Cc.cF3 Cc.cM1 Cc.cM3 Cc.cB2 (by omega) w12 hVe (by omega) (by omega) Cc.hsg _ _ _ _ hH (by omega) (by omega) (by omega) (by omega) (by omega) (by omega) (by omega) (by omega) ((V/8:Nat):Int) 0 0 _ (dlU (fD n).j (vR (fD n) B)) (10^(3*(fD n).j)) (V%8*10^(3*(fD n).j)) (V%8*10^(3*(fD n).j)+dlU (fD n).j (vR (fD n) B)) (10^(3*(fD n).j+1)) (V%8) cO cS b30 b31 (by omega) cU hU hL (by rw [← Int.natCast_mul];omega) (by rw [← Int.natCast_mul];omega) o1 (by omega) o2 cP (fun W v v' h1 h2=>(rtimes_nt (by decide) (by decide) h1 h2).mono fun r w' ⟨v,e1,e2,e3⟩=>⟨v,e1,e2.more (by decide),e3⟩) (fun W v v' h1 h2=>(radd_nv (by decide) (by decide) h1.nv h2).mono fun r w' ⟨v,e1,e2,e3⟩=>⟨v,e1,e2.more (by decide),e3⟩) rfl cQ (fun W v v' h1 h2=>rcmp_nv (by decide) (by decide) h1 h2) (sgn_below hClt) (fun W v hv=>bits_nv hv)
 ·have eF:vF true (fD n).w (vG (fD n) B)=V/2%4*2^(fD n).w+vG (fD n) B%2^(fD n).w:=by unfold vF vV;simp only [if_true];rw [← hvv,if_neg h24]
  have eL:vL true (fD n).w (vG (fD n) B)=8+V%2:=by unfold vL vV;simp only [if_true];rw [← hvv,if_neg h24]
  rw [eF,eL]
  rw [eL] at hClt
  have q8:=hF0 (V/2%4) (by omega)
  have o1:=or_lay (V/2%4) (vG (fD n) B%2^(fD n).w) (fD n).w hlow (by omega)
  rw [Int.natCast_mul] at o1
  have o2:=and_lay (V/2) 2 (by decide) (by omega)
  rw [show (((2^2:Nat):Int)-1)=3 by decide,show V/2%2^2=V/2%4 from rfl,show ((V/2:Nat):Int)=(V:Int)/2 by omega] at o2
  have o3:=and_lay V 1 (by decide) (by omega)
  rw [show (((2^1:Nat):Int)-1)=1 by decide,show V%2^1=V%2 from rfl] at o3
  exact vmn_db n _ _ _ _ _ _ _ _ _ _ B _ _ _ _ _ (fD n).w w (by omega) (by omega) (by omega) (by omega) (by omega) (by omega) Cc.hAb Cc.cF1 Cc.cF2 Cc.cF3 Cc.cM1 Cc.cM3 Cc.cB2 (by omega) w12 hVe (by omega) (by omega) Cc.hsg _ _ _ ((8+V%2:Nat):Int) hH (by omega) (by omega) (by omega) (by omega) (by omega) (by omega) (by omega) (by omega) ((V/2%4:Nat):Int) ((V%2:Nat):Int) 0 _ (dlU (fD n).j (vR (fD n) B)) (10^(3*(fD n).j)) ((8+V%2)*10^(3*(fD n).j)) ((8+V%2)*10^(3*(fD n).j)+dlU (fD n).j (vR (fD n) B)) (10^(3*(fD n).j+1)) (8+V%2) cO cS b30 b31 (by omega) cU hU hL (by rw [← Int.natCast_mul];omega) (by rw [← Int.natCast_mul];omega) o1 o2 o3 (by omega) (by omega) (by omega) cP (fun W v v' h1 h2=>(rtimes_nt (by decide) (by decide) h1 h2).mono fun r w' ⟨v,e1,e2,e3⟩=>⟨v,e1,e2.more (by decide),e3⟩) (fun W v v' h1 h2=>(radd_nv (by decide) (by decide) h1.nv h2).mono fun r w' ⟨v,e1,e2,e3⟩=>⟨v,e1,e2.more (by decide),e3⟩) rfl cQ (fun W v v' h1 h2=>rcmp_nv (by decide) (by decide) h1 h2) (sgn_below hClt) (fun W v hv=>bits_nv hv)
theorem vmean_p {n:Int} (h:decN n) (hdn:(fD n).dn=false) (B:Nat) (w:World) (hB:B<2^256) (h30:vV (fD n).w (vG (fD n) B)≠30) (h31:vV (fD n).w (vG (fD n) B)≠31) :
  Calls Tryz.prog 47 #[.int .i64 n,A4 B] w fun r w'=>r=.returned (vM (fD n) B).v/\Below w.heap.size w w':=by
 have ho:=fD_ok n
 obtain ⟨w6,w12,t20,t110,j2,j11,t64,l0,l1,H0,H1⟩:=ok_bounds ho
 have Cc:=vc_of h B hB
 have hg:=g_lim ho B
 have hr:=vR_lt (fD n) B
 have p2:=p_200 (a:=(fD n).t) (by omega)
 have p3:(2:Nat)^220<2^256:=by decide
 have cO:=Cc.cO
 have cS:=Cc.cS
 rw [hdn] at cO cS
 have b30:(((vV (fD n).w (vG (fD n) B):Nat):Int) == 30)=false:=by rw [beq_eq_false_iff_ne];omega
 have b31:(((vV (fD n).w (vG (fD n) B):Nat):Int) == 31)=false:=by rw [beq_eq_false_iff_ne];omega
 have hH:(2:Int)^(fD n).w=((2^(fD n).w:Nat):Int):=(powCast _).symm
 have hV1:=Cc.hV1
 have hVe:=Cc.hV
 have hvv:vV (fD n).w (vG (fD n) B)=vG (fD n) B/2^(fD n).w:=rfl
 have hlow:vG (fD n) B%2^(fD n).w<2^(fD n).w:=Nat.mod_lt _ (Nat.two_pow_pos _)
 have cQ:∀ W,CE 25 #[.int .u64 10,.int .i64 (3*((fD n).j:Int)+1)] W (NV 50000 (10^(3*(fD n).j+1))):=fun W=>by
  have:=rpowt_nv (3*(fD n).j+1) W (by omega)
  rw [show ((3*(fD n).j+1:Nat):Int)=3*((fD n).j:Int)+1 by omega] at this
  exact this
 have hU:vR (fD n) B<2^256:=by omega
 have hgl:=vG_lt (fD n) B
 have w5:2^((fD n).w+5)=32*2^(fD n).w:=by rw [Nat.pow_add,Nat.mul_comm]
 have w2:2^((fD n).w+2)=4*2^(fD n).w:=by rw [Nat.pow_add,Nat.mul_comm]
 have eM:vM (fD n) B=⟨1,vS (fD n) B,false,(vF false (fD n).w (vG (fD n) B):Int)+(fD n).l,if vL false (fD n).w (vG (fD n) B)*2^(fD n).t+vR (fD n) B<10^(3*(fD n).j+1) then vL false (fD n).w (vG (fD n) B)*2^(fD n).t+vR (fD n) B else 0⟩:=by
  have hq:vQ (fD n)=2^(fD n).t:=by unfold vQ;rw [hdn];rfl
  have ht:vT (fD n) (vR (fD n) B)=vR (fD n) B:=by unfold vT;rw [hdn];rfl
  unfold vM vD
  rw [if_neg h30,if_neg h31,hdn,hq,ht]
 rw [eM]
 have hDV:∀ x:Int,(Dat.mk 1 (vS (fD n) B) false x 0).v=.agg #[.int .i64 1,.bool (vS (fD n) B),.bool false,.int .i64 x,.int .u64 0,.int .u64 0,.int .u64 0,.int .u64 0]:=fun x=>by unfold Dat.v DV;simp only [W4_zero]
 generalize vV (fD n).w (vG (fD n) B)=V at *
 by_cases h24:V<24
 ·have eF:vF false (fD n).w (vG (fD n) B)=vG (fD n) B/8:=by unfold vF vV;simp only [Bool.false_eq_true,if_false];rw [← hvv,if_pos h24]
  have eL:vL false (fD n).w (vG (fD n) B)=vG (fD n) B%8:=by unfold vL vV;simp only [Bool.false_eq_true,if_false];rw [← hvv,if_pos h24]
  rw [eF,eL]
  have o2:=and_lay (vG (fD n) B) 3 (by decide) (by omega)
  rw [show (((2^3:Nat):Int)-1)=7 by decide,show vG (fD n) B%2^3=vG (fD n) B%8 from rfl] at o2
  have hF:(vG (fD n) B:Int)/8=((vG (fD n) B/8:Nat):Int):=by omega
  by_cases hlt:vG (fD n) B%8*2^(fD n).t+vR (fD n) B<10^(3*(fD n).j+1)
  ·rw [if_pos hlt]
   exact vmn_ps n _ _ _ _ _ _ _ _ _ _ B _ _ _ _ _ (fD n).w w (by omega) (by omega) (by omega) (by omega) (by omega) (by omega) Cc.hAb Cc.cF1 Cc.cF2 Cc.cF3 Cc.cM1 Cc.cM3 Cc.cB2 (by omega) w12 hVe (by omega) (by omega) Cc.hsg _ _ _ hH (by omega) (by omega) (by omega) (by omega) (by omega) (by omega) (by omega) (by omega) 0 0 0 _ 0 0 (vG (fD n) B%8*2^(fD n).t) _ (10^(3*(fD n).j+1)) (vG (fD n) B%8) cO cS b30 b31 (by omega) hF o2 hU (fun W v h1=>(rleft_nt (fD n).t (by decide) (by omega) h1).mono fun r w' ⟨v,e1,e2,e3⟩=>⟨v,e1,e2.more (by omega),e3⟩) (fun W v v' h1 h2=>(radd_nv (by decide) (by decide) h1.nv h2).mono fun r w' ⟨v,e1,e2,e3⟩=>⟨v,e1,e2.more (by decide),e3⟩) rfl cQ (fun W v v' h1 h2=>rcmp_nv (by decide) (by decide) h1 h2) (sgn_below hlt) (fun W v hv=>bits_nv hv)
  ·rw [if_neg hlt,hDV]
   exact vmn_pso n _ _ _ _ _ _ _ _ _ _ B _ _ _ _ _ (fD n).w w (by omega) (by omega) (by omega) (by omega) (by omega) (by omega) Cc.hAb Cc.cF1 Cc.cF2 Cc.cF3 Cc.cM1 Cc.cM3 Cc.cB2 (by omega) w12 hVe (by omega) (by omega) Cc.hsg _ _ _ hH (by omega) (by omega) (by omega) (by omega) (by omega) (by omega) (by omega) (by omega) 0 0 0 _ 0 0 (vG (fD n) B%8*2^(fD n).t) (vG (fD n) B%8*2^(fD n).t+vR (fD n) B) (10^(3*(fD n).j+1)) (vG (fD n) B%8) cO cS b30 b31 (by omega) hF o2 hU (fun W v h1=>(rleft_nt (fD n).t (by decide) (by omega) h1).mono fun r w' ⟨v,e1,e2,e3⟩=>⟨v,e1,e2.more (by omega),e3⟩) (fun W v v' h1 h2=>(radd_nv (by decide) (by decide) h1.nv h2).mono fun r w' ⟨v,e1,e2,e3⟩=>⟨v,e1,e2.more (by decide),e3⟩) rfl cQ (fun W v v' h1 h2=>rcmp_nv (by decide) (by decide) h1 h2) (sgn_above hlt) (fun W=>bits_none W)
 ·have eF:vF false (fD n).w (vG (fD n) B)=vG (fD n) B/2%2^((fD n).w+2):=by unfold vF vV;simp only [Bool.false_eq_true,if_false];rw [← hvv,if_neg h24]
  have eL:vL false (fD n).w (vG (fD n) B)=8+vG (fD n) B%2:=by unfold vL vV;simp only [Bool.false_eq_true,if_false];rw [← hvv,if_neg h24]
  rw [eF,eL]
  have hm:vG (fD n) B/2%2^((fD n).w+2)<2^((fD n).w+2):=Nat.mod_lt _ (Nat.two_pow_pos _)
  have hH4:(2:Int)^((fD n).w+2)=((2^((fD n).w+2):Nat):Int):=(powCast _).symm
  have o1:=and_lay (vG (fD n) B/2) ((fD n).w+2) (by omega) (by omega)
  rw [show ((vG (fD n) B/2:Nat):Int)=(vG (fD n) B:Int)/2 by omega] at o1
  have o3:=and_lay (vG (fD n) B) 1 (by decide) (by omega)
  rw [show (((2^1:Nat):Int)-1)=1 by decide,show vG (fD n) B%2^1=vG (fD n) B%2 from rfl] at o3
  by_cases hlt:(8+vG (fD n) B%2)*2^(fD n).t+vR (fD n) B<10^(3*(fD n).j+1)
  ·rw [if_pos hlt]
   exact vmn_pb n _ _ _ _ _ _ _ _ _ _ B _ _ _ _ _ (fD n).w w (by omega) (by omega) (by omega) (by omega) (by omega) (by omega) Cc.hAb Cc.cF1 Cc.cF2 Cc.cF3 Cc.cM1 Cc.cM3 Cc.cB2 (by omega) w12 hVe (by omega) (by omega) Cc.hsg _ _ ((8+vG (fD n) B%2:Nat):Int) hH (by omega) (by omega) (by omega) (by omega) (by omega) (by omega) (by omega) (by omega) 0 ((vG (fD n) B%2:Nat):Int) ((2^((fD n).w+2):Nat):Int) _ 0 0 ((8+vG (fD n) B%2)*2^(fD n).t) _ (10^(3*(fD n).j+1)) (8+vG (fD n) B%2) cO cS b30 b31 (by omega) hH4 (by omega) (by omega) o1 o3 (by omega) (by omega) (by omega) hU (fun W v h1=>(rleft_nt (fD n).t (by decide) (by omega) h1).mono fun r w' ⟨v,e1,e2,e3⟩=>⟨v,e1,e2.more (by omega),e3⟩) (fun W v v' h1 h2=>(radd_nv (by decide) (by decide) h1.nv h2).mono fun r w' ⟨v,e1,e2,e3⟩=>⟨v,e1,e2.more (by decide),e3⟩) rfl cQ (fun W v v' h1 h2=>rcmp_nv (by decide) (by decide) h1 h2) (sgn_below hlt) (fun W v hv=>bits_nv hv)
  ·rw [if_neg hlt,hDV]
   exact vmn_pbo n _ _ _ _ _ _ _ _ _ _ B _ _ _ _ _ (fD n).w w (by omega) (by omega) (by omega) (by omega) (by omega) (by omega) Cc.hAb Cc.cF1 Cc.cF2 Cc.cF3 Cc.cM1 Cc.cM3 Cc.cB2 (by omega) w12 hVe (by omega) (by omega) Cc.hsg _ _ ((8+vG (fD n) B%2:Nat):Int) hH (by omega) (by omega) (by omega) (by omega) (by omega) (by omega) (by omega) (by omega) 0 ((vG (fD n) B%2:Nat):Int) ((2^((fD n).w+2):Nat):Int) _ 0 0 ((8+vG (fD n) B%2)*2^(fD n).t) ((8+vG (fD n) B%2)*2^(fD n).t+vR (fD n) B) (10^(3*(fD n).j+1)) (8+vG (fD n) B%2) cO cS b30 b31 (by omega) hH4 (by omega) (by omega) o1 o3 (by omega) (by omega) (by omega) hU (fun W v h1=>(rleft_nt (fD n).t (by decide) (by omega) h1).mono fun r w' ⟨v,e1,e2,e3⟩=>⟨v,e1,e2.more (by omega),e3⟩) (fun W v v' h1 h2=>(radd_nv (by decide) (by decide) h1.nv h2).mono fun r w' ⟨v,e1,e2,e3⟩=>⟨v,e1,e2.more (by decide),e3⟩) rfl cQ (fun W v v' h1 h2=>rcmp_nv (by decide) (by decide) h1 h2) (sgn_above hlt) (fun W=>bits_none W)
theorem rmean14 {n:Int} (h:decN n) (B:Nat) (w:World) (hB:B<2^256) :
  Calls Tryz.prog 47 #[.int .i64 n,A4 B] w fun r w'=>r=.returned (vM (fD n) B).v/\Below w.heap.size w w':=by
 by_cases e:vV (fD n).w (vG (fD n) B)=30∨vV (fD n).w (vG (fD n) B)=31
 ·exact vmean_s h B w hB e
 ·cases hdn:(fD n).dn
  ·exact vmean_p h hdn B w hB (fun q=>e (Or.inl q)) (fun q=>e (Or.inr q))
  ·exact vmean_d h hdn B w hB (fun q=>e (Or.inl q)) (fun q=>e (Or.inr q))
section
def vUD (n:Int) (B:Nat):Dat:=if goodD n B then vM (fD n) B else ⟨0,false,false,0,0⟩
def vUC (n:Int) (B:Nat):Bool:=decide (goodD n B/\vP (fD n) (vM (fD n) B)=B)
def vUE (n:Int) (B:Nat):Int:=if goodD n B then 0 else 1
theorem vUD_256 (n:Int) (B:Nat):(vUD n B).k<2^256:=by
 unfold vUD
 split
 ·exact vM_256 (fD_ok n) B
 ·decide
theorem eq_words {X Y:Nat} (hX:X<2^256) (hY:Y<2^256):decide (W4 X 0=W4 Y 0/\W4 X 1=W4 Y 1/\W4 X 2=W4 Y 2/\W4 X 3=W4 Y 3)=decide (X=Y):=by
 refine decide_eq_decide.2 ⟨fun ⟨h0,h1,h2,h3⟩=>A4_inj hX hY fun i hi=>?_,fun h=>by rw [h];exact ⟨rfl,rfl,rfl,rfl⟩⟩
 have:i=0∨i=1∨i=2∨i=3:=by omega
 rcases this with rfl | rfl | rfl | rfl
 ·exact h0
 ·exact h1
 ·exact h2
 ·exact h3
attribute [local irreducible] W4
section
variable (n:Int) (B:Nat) (w:World)
theorem vun_n (c16:∀ W,CB 15 #[.int .i64 n,A4 B] W (.bool false)) :
  CB 21 #[.int .i64 n,A4 B] w (.tuple #[.agg #[.int .i64 0,.bool false,.bool false,.int .i64 0,.int .u64 0,.int .u64 0,.int .u64 0,.int .u64 0],.bool false,.int .i64 1]):=by
 have hsm:=cell_set_map
 go_enter Tryz.func21,Tryz.ntmps21
 go_wp2_with (go_at_call 15;refine (c16 _).mono ?_;rintro r w1 ⟨rfl,hb1⟩;obtain ⟨_,_,_,_,hA1,_⟩:=wz w hb1;obtain ⟨_,_⟩:=zf hb1 (w.heap.size+1);clear hb1)
 exact bodyPost_ret (by simp only [results,Tryz.results21];go_simp) rfl ⟨rfl,bgo⟩
theorem vun_y (c x:Int) (s g:Bool) (k P:Nat) (E:Int) (R:Bool) (hR:decide (W4 P 0=W4 B 0/\W4 P 1=W4 B 1/\W4 P 2=W4 B 2/\W4 P 3=W4 B 3)=R)
  (c16:∀ W,CB 15 #[.int .i64 n,A4 B] W (.bool true))
  (c17:∀ W,CB 47 #[.int .i64 n,A4 B] W (DV c s g x k))
  (c13:∀ W,CB 27 #[.int .i64 n,DV c s g x k] W (.tuple #[A4 P,.int .i64 E])) :
  CB 21 #[.int .i64 n,A4 B] w (.tuple #[DV c s g x k,.bool R,.int .i64 0]):=by
 have h24:=eq24 (W4 P 0) (W4 P 1) (W4 P 2) (W4 P 3) (W4 B 0) (W4 B 1) (W4 B 2) (W4 B 3)
 rw [hR] at h24
 clear hR
 have hsm:=cell_set_map
 unfold DV A4 at *
 go_enter Tryz.func21,Tryz.ntmps21
 go_wp2_with (first
  | (go_at_call 15;refine (c16 _).mono ?_;rintro r w1 ⟨rfl,hb1⟩;obtain ⟨_,_,_,_,hA1,_⟩:=wz w hb1;obtain ⟨_,_⟩:=zf hb1 (w.heap.size+1);clear hb1)
  | (go_at_call 47;refine (c17 _).mono ?_;rintro r w2 ⟨rfl,hb2⟩;obtain ⟨_,_,_,_,hA2,_⟩:=wz w hb2;obtain ⟨_,_⟩:=zf hb2 (w.heap.size+1);clear hb2)
  | (go_at_call 27;refine (c13 _).mono ?_;rintro r w3 ⟨rfl,hb3⟩;obtain ⟨_,_,_,_,hA3,_⟩:=wz w hb3;obtain ⟨_,_⟩:=zf hb3 (w.heap.size+1);obtain ⟨_,_⟩:=zf hb3 w2.heap.size;clear hb3))
 go_region_with (fail)
 all_goals go_wp2
 all_goals exact bodyPost_ret (by simp only [results,Tryz.results21];go_simp) rfl ⟨rfl,bgo⟩
end
theorem zero_v:(Dat.mk 0 false false 0 0).v=.agg #[.int .i64 0,.bool false,.bool false,.int .i64 0,.int .u64 0,.int .u64 0,.int .u64 0,.int .u64 0]:=by unfold Dat.v DV;simp only [W4_zero]
theorem vPV_of {n:Int} {B:Nat} (h:goodD n B):vPV n (vM (fD n) B)=vP (fD n) (vM (fD n) B)/\vPE n (vM (fD n) B)=0:=by
 have hi:=vM_is (fD_ok n) B
 unfold vPV vPE
 exact ⟨if_pos ⟨h.1,hi⟩,by rw [if_pos h.1,if_pos hi]⟩
theorem runp14 (n:Int) (B:Nat) (w:World) (hB:B<2^256) :
  CB 21 #[.int .i64 n,A4 B] w (.tuple #[(vUD n B).v,.bool (vUC n B),.int .i64 (vUE n B)]):=by
 have c16:=fun W=>rgood14 n B hB W
 unfold vUD vUC vUE
 by_cases h:goodD n B
 ·rw [if_pos h,if_pos h]
  rw [decide_eq_true h] at c16
  obtain ⟨e1,e2⟩:=vPV_of h
  have c13:=fun W=>rpk14 n (vM (fD n) B) W (vM_256 (fD_ok n) B)
  rw [e1] at c13
  refine vun_y n B w _ _ _ _ _ _ _ _ ?_ c16 (fun W=>rmean14 h.1 B W hB) c13
  rw [eq_words (vP_256 (fD_ok n) (vM_is (fD_ok n) B)) hB]
  exact decide_eq_decide.2 ⟨fun q=>⟨h,q⟩,fun q=>q.2⟩
 ·rw [if_neg h,if_neg h,decide_eq_false (fun q=>h q.1),zero_v]
  rw [decide_eq_false h] at c16
  exact vun_n n B w c16
end
end Go.Proofs.YtpabnhlfbjkmaaaGreatDoor
