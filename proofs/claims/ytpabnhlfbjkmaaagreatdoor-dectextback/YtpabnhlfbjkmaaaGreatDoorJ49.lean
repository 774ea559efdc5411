/-
  Texts that the proof leans on, joined: Vl, Vm, Uh, Uj, Eg, Uk, Pa, Uo, Pc, Pe, Pl, Pm, Pp, Zm, Vq, Zn, Pf, Pb, Pg, Ph, Ur, Uw.
-/
import Derived.Test.YtpabnhlfbjkmaaaGreatDoorJ1
import Derived.Test.YtpabnhlfbjkmaaaGreatDoorJ48
import Derived.Test.YtpabnhlfbjkmaaaGreatDoorJ40
import Derived.Test.YtpabnhlfbjkmaaaGreatDoorJ43
import Derived.Test.YtpabnhlfbjkmaaaGreatDoorJ41
import Derived.Test.YtpabnhlfbjkmaaaGreatDoorJ33
import Derived.Test.YtpabnhlfbjkmaaaGreatDoorJ32
import Derived.Test.YtpabnhlfbjkmaaaGreatDoorJ24
import Derived.Test.YtpabnhlfbjkmaaaGreatDoorJ21
import Derived.Test.YtpabnhlfbjkmaaaGreatDoorJ23
import Derived.Test.YtpabnhlfbjkmaaaGreatDoorJ35
import Derived.Test.YtpabnhlfbjkmaaaGreatDoorJ27
import Derived.Test.YtpabnhlfbjkmaaaGreatDoorJ6
import Derived.Test.YtpabnhlfbjkmaaaGreatDoorJ42
import Derived.Deep.MidRow
import Derived.Test.YtpabnhlfbjkmaaaGreatDoorJ19
import Derived.Test.YtpabnhlfbjkmaaaGreatDoorJ10
import Derived.Test.YtpabnhlfbjkmaaaGreatDoorJ34
import Derived.Test.YtpabnhlfbjkmaaaGreatDoorJ37
import Derived.Test.YtpabnhlfbjkmaaaGreatDoorJ44
import Derived.Test.YtpabnhlfbjkmaaaGreatDoorJ46
import Derived.Test.YtpabnhlfbjkmaaaGreatDoorJ45
import Derived.Test.YtpabnhlfbjkmaaaGreatDoorJ36
import Derived.Test.YtpabnhlfbjkmaaaGreatDoorJ47
set_option linter.unusedVariables false
set_option linter.unusedSectionVars false
set_option linter.unusedSimpArgs false
set_option maxHeartbeats 8000000
set_option maxRecDepth 20000
namespace Go.Proofs.YtpabnhlfbjkmaaaGreatDoor
open Go.RowKit
structure VC (n:Int) (B:Nat):Prop where
 cO:∀ W,CB 19 #[.int .i64 n] W (.tuple #[IDec n (nameN n) (((fD n).t+((fD n).w+6):Nat):Int) (3*((fD n).j:Int)+1) (expN n) (fD n).l ((fD n).l+3*2^(fD n).w-1) (3*((fD n).j:Int)) (fD n).dn,.int .i64 0])
 cS:∀ W,CB 52 #[IDec n (nameN n) (((fD n).t+((fD n).w+6):Nat):Int) (3*((fD n).j:Int)+1) (expN n) (fD n).l ((fD n).l+3*2^(fD n).w-1) (3*((fD n).j:Int)) (fD n).dn] W (.tuple #[.int .i64 (((fD n).w:Int)+5),.int .i64 ((fD n).t:Int),.int .i64 ((fD n).j:Int)])
 cF1:∀ W,CE 59 #[A4 B,.int .i64 ((fD n).t:Int),.int .i64 (((fD n).w:Int)+5)] W (NT 19 (vG (fD n) B))
 cF2:∀ W,CE 59 #[A4 B,.int .i64 0,.int .i64 ((fD n).t:Int)] W (NT 19 (vR (fD n) B))
 cF3:∀ W,CE 59 #[A4 B,.int .i64 (((fD n).t:Int)+(((fD n).w:Int)+5)),.int .i64 1] W (NT 19 (B/2^((fD n).t+((fD n).w+5))%2))
 cM1:∀ W v,NT 19 (vG (fD n) B) v W->CQ 57 #[v] W (.int .i64 (vG (fD n) B:Int))
 cM3:∀ W v,NT 19 (B/2^((fD n).t+((fD n).w+5))%2) v W->CQ 57 #[v] W (.int .i64 ((B/2^((fD n).t+((fD n).w+5))%2:Nat):Int))
 cB2:∀ W v,NT 19 (vR (fD n) B) v W->CB 22 #[v] W (A4 (vR (fD n) B))
 hAb:(vG (fD n) B:Int)<=200000
 hV:(vG (fD n) B:Int)/2^(fD n).w=((vV (fD n).w (vG (fD n) B):Nat):Int)
 hV1:vV (fD n).w (vG (fD n) B)<=31
 hsg:(((B/2^((fD n).t+((fD n).w+5))%2:Nat):Int) == 1)=vS (fD n) B
theorem g_lim {f:DF} (h:f.ok) (B:Nat):vG f B<131072:=by
 have:=vG_lt f B
 rcases h with ⟨h1,h2,h3,h4⟩ | ⟨h1,h2,h3,h4⟩ | ⟨h1,h2,h3,h4⟩ <;> rw [h2] at this <;> simp only [Nat.reducePow,Nat.reduceAdd] at this <;> omega
theorem vc_of {n:Int} (h:decN n) (B:Nat) (hB:B<2^256):VC n B:=by
 have ho:=fD_ok n
 obtain ⟨w6,w12,t20,t110,j2,j11,t64,l0,l1,H0,H1⟩:=ok_bounds ho
 have hg:=g_lim ho B
 refine ⟨fun W=>rof_dec h W,fun W=>dec_shape h _ _ _ _ _ _ W,fun W=>?_,fun W=>?_,fun W=>?_,fun W v hv=>?_,fun W v hv=>?_,fun W v hv=>bits_nv hv.nv,by omega,?_,?_,?_⟩
 ·have:=field_any B (fD n).t ((fD n).w+5) W hB (by omega) (by omega)
  rw [show (((fD n).w+5:Nat):Int)=((fD n).w:Int)+5 by omega] at this
  exact this
 ·have:=field_any B 0 (fD n).t W hB (by decide) (by omega)
  rw [Nat.pow_zero,Nat.div_one] at this
  exact this
 ·have:=field_any B ((fD n).t+((fD n).w+5)) 1 W hB (by omega) (by decide)
  rw [show (((fD n).t+((fD n).w+5):Nat):Int)=((fD n).t:Int)+(((fD n).w:Int)+5) by omega,Nat.pow_one] at this
  exact this
 ·exact (number_wide hv.nv (by decide) (by omega)).mono fun r w' ⟨e1,e2⟩=>⟨e1,e2.symm⟩
 ·exact (number_wide hv.nv (by decide) (by omega)).mono fun r w' ⟨e1,e2⟩=>⟨e1,e2.symm⟩
 ·unfold vV
  rw [← powCast,Int.natCast_ediv]
 ·have:=vG_lt (fD n) B
  rw [Nat.pow_add] at this
  unfold vV
  have:vG (fD n) B/2^(fD n).w<32:=by rw [Nat.div_lt_iff_lt_mul (Nat.two_pow_pos _),Nat.mul_comm];exact this
  omega
 ·unfold vS
  rw [Bool.eq_iff_iff]
  simp only [beq_iff_eq,decide_eq_true_eq]
  omega
theorem cU_of {n:Int} (B:Nat):∀ W,CB 94 #[A4 (vR (fD n) B),.int .i64 ((fD n).j:Int)] W (.tuple #[A4 (dlU (fD n).j (vR (fD n) B)),.int .i64 0]):=fun W=>by
 have ho:=fD_ok n
 obtain ⟨w6,w12,t20,t110,j2,j11,t64,l0,l1,H0,H1⟩:=ok_bounds ho
 have hr:=vR_lt (fD n) B
 have p2:=p_200 (a:=(fD n).t) (by omega)
 have p3:(2:Nat)^220<2^256:=by decide
 have:=rupk_any (vR (fD n) B) ((fD n).j:Int) W (by omega)
 have c1:(0:Int)<=((fD n).j:Int)/\((fD n).j:Int)<=11:=by omega
 rw [ho.pt] at hr
 unfold dUv dUe at this
 rw [if_pos c1,if_pos c1,Int.toNat_natCast,if_pos hr,if_pos hr] at this
 exact this
theorem vmean_s {n:Int} (h:decN n) (B:Nat) (w:World) (hB:B<2^256) (h30:vV (fD n).w (vG (fD n) B)=30∨vV (fD n).w (vG (fD n) B)=31) :
  Calls Tryz.prog 47 #[.int .i64 n,A4 B] w fun r w'=>r=.returned (vM (fD n) B).v/\Below w.heap.size w w':=by
 have ho:=fD_ok n
 obtain ⟨w6,w12,t20,t110,j2,j11,t64,l0,l1,H0,H1⟩:=ok_bounds ho
 have C:=vc_of h B hB
 have hg:=g_lim ho B
 have hr:=vR_lt (fD n) B
 have p2:=p_200 (a:=(fD n).t) (by omega)
 have p3:(2:Nat)^220<2^256:=by decide
 unfold vM vD
 by_cases e30:vV (fD n).w (vG (fD n) B)=30
 ·rw [if_pos e30]
  have:=vmn_i n _ _ _ _ _ _ _ _ _ _ B _ _ _ _ _ (fD n).w w (by omega) (by omega) (by omega) (by omega) (by omega) (by omega) C.hAb C.cF1 C.cF2 C.cF3 C.cM1 C.cM3 C.cB2 (by omega) w12 C.hV (by omega) (by have:=C.hV1;omega) C.hsg _ C.cO C.cS (by rw [e30];rfl)
  rw [show (Dat.mk 2 (vS (fD n) B) false 0 0).v=.agg #[.int .i64 2,.bool (vS (fD n) B),.bool false,.int .i64 0,.int .u64 0,.int .u64 0,.int .u64 0,.int .u64 0] by unfold Dat.v DV;simp only [W4_zero]]
  exact this
 ·have e31:vV (fD n).w (vG (fD n) B)=31:=by omega
  rw [if_neg e30,if_pos e31]
  have hgg:(bits .and .u64 ((vG (fD n) B:Int)/2^((fD n).w-1)) 1 == 1)=decide (vG (fD n) B/2^((fD n).w-1)%2=1):=by
   have hle:vG (fD n) B/2^((fD n).w-1)<=vG (fD n) B:=Nat.div_le_self _ _
   have:=and_lay (vG (fD n) B/2^((fD n).w-1)) 1 (by decide) (by omega)
   rw [Int.natCast_ediv,powCast] at this
   rw [show (((2^1:Nat):Int)-1)=1 by decide] at this
   rw [this,Nat.pow_one,Bool.eq_iff_iff]
   simp only [beq_iff_eq,decide_eq_true_eq]
   omega
  have b30:(((vV (fD n).w (vG (fD n) B):Nat):Int) == 30)=false:=by rw [e31];rfl
  have b31:(((vV (fD n).w (vG (fD n) B):Nat):Int) == 31)=true:=by rw [e31];rfl
  have cO:=C.cO
  have cS:=C.cS
  cases hdn:(fD n).dn
  ·rw [hdn] at cO cS
   have eT:vT (fD n) (vR (fD n) B)=vR (fD n) B:=by unfold vT;rw [hdn];rfl
   rw [eT]
   have cW:=fun W=>rbelowt (vR (fD n) B) (3*(fD n).j) W (by omega) (by omega)
   rw [show ((3*(fD n).j:Nat):Int)=3*((fD n).j:Int) by omega] at cW
   by_cases hlt:vR (fD n) B<10^(3*(fD n).j)
   ·rw [decide_eq_true hlt] at cW
    rw [if_pos hlt]
    exact vmn_nfy n _ _ _ _ _ _ _ _ _ _ B _ _ _ _ _ (fD n).w w (by omega) (by omega) (by omega) (by omega) (by omega) (by omega) C.hAb C.cF1 C.cF2 C.cF3 C.cM1 C.cM3 C.cB2 (by omega) w12 C.hV (by omega) (by have:=C.hV1;omega) C.hsg ((fD n).w-1) _ cO cS b30 b31 (by omega) (by omega) hgg cW
   ·rw [decide_eq_false hlt] at cW
    rw [if_neg hlt]
    have:=vmn_nfn n _ _ _ _ _ _ _ _ _ _ B _ _ _ _ _ (fD n).w w (by omega) (by omega) (by omega) (by omega) (by omega) (by omega) C.hAb C.cF1 C.cF2 C.cF3 C.cM1 C.cM3 C.cB2 (by omega) w12 C.hV (by omega) (by have:=C.hV1;omega) C.hsg ((fD n).w-1) _ cO cS b30 b31 (by omega) (by omega) hgg cW
    rw [show (Dat.mk 3 (vS (fD n) B) (decide (vG (fD n) B/2^((fD n).w-1)%2=1)) 0 0).v=.agg #[.int .i64 3,.bool (vS (fD n) B),.bool (decide (vG (fD n) B/2^((fD n).w-1)%2=1)),.int .i64 0,.int .u64 0,.int .u64 0,.int .u64 0,.int .u64 0] by unfold Dat.v DV;simp only [W4_zero]]
    exact this
  ·rw [hdn] at cO cS
   have eT:vT (fD n) (vR (fD n) B)=dlU (fD n).j (vR (fD n) B):=by unfold vT;rw [hdn];rfl
   have hlt:dlU (fD n).j (vR (fD n) B)<10^(3*(fD n).j):=by rw [ten3];exact dlU_lt _ _
   rw [eT,if_pos hlt]
   have hU:=dlU_256 (fD n).j (vR (fD n) B) j11
   have cW:=fun W=>rbelowt (dlU (fD n).j (vR (fD n) B)) (3*(fD n).j) W hU (by omega)
   rw [show ((3*(fD n).j:Nat):Int)=3*((fD n).j:Int) by omega,decide_eq_true hlt] at cW
   exact vmn_nty n _ _ _ _ _ _ _ _ _ _ B _ _ _ _ _ (fD n).w w (by omega) (by omega) (by omega) (by omega) (by omega) (by omega) C.hAb C.cF1 C.cF2 C.cF3 C.cM1 C.cM3 C.cB2 (by omega) w12 C.hV (by omega) (by have:=C.hV1;omega) C.hsg ((fD n).w-1) _ _ cO cS b30 b31 (by omega) (by omega) hgg (cU_of B) cW
theorem sgn_below {A B:Nat} (h:A<B):¬ (0:Int)<=sgn (A:Int) (B:Int):=by
 rcases sgn_ways (A:Int) (B:Int) with ⟨a,e⟩ | ⟨a,e⟩ | ⟨a,e⟩ <;> omega
theorem sgn_above {A B:Nat} (h:¬ A<B):(0:Int)<=sgn (A:Int) (B:Int):=by
 rcases sgn_ways (A:Int) (B:Int) with ⟨a,e⟩ | ⟨a,e⟩ | ⟨a,e⟩ <;> omega
theorem vmean_d {n:Int} (h:decN n) (hdn:(fD n).dn=true) (B:Nat) (w:World) (hB:B<2^256) (h30:vV (fD n).w (vG (fD n) B)≠30) (h31:vV (fD n).w (vG (fD n) B)≠31) :
  Calls Tryz.prog 47 #[.int .i64 n,A4 B] w fun r w'=>r=.returned (vM (fD n) B).v/\Below w.heap.size w w':=by
 have ho:=fD_ok n
 obtain ⟨w6,w12,t20,t110,j2,j11,t64,l0,l1,H0,H1⟩:=ok_bounds ho
 have Cc:=vc_of h B hB
 have hg:=g_lim ho B
 have hr:=vR_lt (fD n) B
 have p2:=p_200 (a:=(fD n).t) (by omega)
 have p3:(2:Nat)^220<2^256:=by decide
 have cO:=Cc.cO
 have cS:=Cc.cS
 rw [hdn] at cO cS
 have b30:(((vV (fD n).w (vG (fD n) B):Nat):Int) == 30)=false:=by rw [beq_eq_false_iff_ne];omega
 have b31:(((vV (fD n).w (vG (fD n) B):Nat):Int) == 31)=false:=by rw [beq_eq_false_iff_ne];omega
 have hH:(2:Int)^(fD n).w=((2^(fD n).w:Nat):Int):=(powCast _).symm
 have hV1:=Cc.hV1
 have hVe:=Cc.hV
 have hvv:vV (fD n).w (vG (fD n) B)=vG (fD n) B/2^(fD n).w:=rfl
 have hlow:vG (fD n) B%2^(fD n).w<2^(fD n).w:=Nat.mod_lt _ (Nat.two_pow_pos _)
 have cQ:∀ W,CE 25 #[.int .u64 10,.int .i64 (3*((fD n).j:Int)+1)] W (NV 50000 (10^(3*(fD n).j+1))):=fun W=>by
  have:=rpowt_nv (3*(fD n).j+1) W (by omega)
  rw [show ((3*(fD n).j+1:Nat):Int)=3*((fD n).j:Int)+1 by omega] at this
  exact this
 have hU:=dlU_256 (fD n).j (vR (fD n) B) j11
 have hUt:dlU (fD n).j (vR (fD n) B)<10^(3*(fD n).j):=by rw [ten3];exact dlU_lt _ _
 have cU:=cU_of (n:=n) B
 have hL:=and_lay (vG (fD n) B) (fD n).w (by omega) (by omega)
 have cP:∀ W,CE 25 #[.int .u64 10,.int .i64 (3*((fD n).j:Int))] W (NV 50000 (10^(3*(fD n).j))):=fun W=>by
  have:=rpowt_nv (3*(fD n).j) W (by omega)
  rw [show ((3*(fD n).j:Nat):Int)=3*((fD n).j:Int) by omega] at this
  exact this
 have eM:vM (fD n) B=⟨1,vS (fD n) B,false,(vF true (fD n).w (vG (fD n) B):Int)+(fD n).l,vL true (fD n).w (vG (fD n) B)*10^(3*(fD n).j)+dlU (fD n).j (vR (fD n) B)⟩:=by
  have hq:vQ (fD n)=10^(3*(fD n).j):=by unfold vQ;rw [hdn];rfl
  have ht:vT (fD n) (vR (fD n) B)=dlU (fD n).j (vR (fD n) B):=by unfold vT;rw [hdn];rfl
  unfold vM vD
  rw [if_neg h30,if_neg h31,hdn,hq,ht,if_pos]
  have h9:vL true (fD n).w (vG (fD n) B)<=9:=by unfold vL;simp only [if_true];split <;> omega
  have:=Nat.mul_le_mul_right (10^(3*(fD n).j)) h9
  rw [Nat.pow_succ]
  omega
 have hClt:vL true (fD n).w (vG (fD n) B)*10^(3*(fD n).j)+dlU (fD n).j (vR (fD n) B)<10^(3*(fD n).j+1):=by
  have h9:vL true (fD n).w (vG (fD n) B)<=9:=by unfold vL;simp only [if_true];split <;> omega
  have:=Nat.mul_le_mul_right (10^(3*(fD n).j)) h9
  rw [Nat.pow_succ]
  omega
 rw [eM]
 generalize vV (fD n).w (vG (fD n) B)=V at *
 have hF0:∀ q,q<=2->q*2^(fD n).w<=2*4096:=fun q hq=>Nat.mul_le_mul hq H1
 by_cases h24:V<24
 ·have eF:vF true (fD n).w (vG (fD n) B)=V/8*2^(fD n).w+vG (fD n) B%2^(fD n).w:=by unfold vF vV;simp only [if_true];rw [← hvv,if_pos h24]
  have eL:vL true (fD n).w (vG (fD n) B)=V%8:=by unfold vL vV;simp only [if_true];rw [← hvv,if_pos h24]
  rw [eF,eL]
  rw [eL] at hClt
  have q8:=hF0 (V/8) (by omega)
  have o1:=or_lay (V/8) (vG (fD n) B%2^(fD n).w) (fD n).w hlow (by omega)
  rw [Int.natCast_mul] at o1
  have o2:=and_lay V 3 (by decide) (by omega)
  rw [show (((2^3:Nat):Int)-1)=7 by decide,show V%2^3=V%8 from rfl] at o2
  exact vmn_ds n _ _ _ _ _ _ _ _ _ _ B _ _ _ _ _ (fD n).w w (by omega) (by omega) (by omega) (by omega) (by omega) (by omega) Cc.hAb Cc.cF1 Cc.cF2 Cc.cF3 Cc.cM1 Cc.cM3 Cc.cB2 (by omega) w12 hVe (by omega) (by omega) Cc.hsg _ _ _ _ hH (by omega) (by omega) (by omega) (by omega) (by omega) (by omega) (by omega) (by omega) ((V/8:Nat):Int) 0 0 _ (dlU (fD n).j (vR (fD n) B)) (10^(3*(fD n).j)) (V%8*10^(3*(fD n).j)) (V%8*10^(3*(fD n).j)+dlU (fD n).j (vR (fD n) B)) (10^(3*(fD n).j+1)) (V%8) cO cS b30 b31 (by omega) cU hU hL (by rw [← Int.natCast_mul];omega) (by rw [← Int.natCast_mul];omega) o1 (by omega) o2 cP (fun W v v' h1 h2=>(rtimes_nt (by decide) (by decide) h1 h2).mono fun r w' ⟨v,e1,e2,e3⟩=>⟨v,e1,e2.more (by decide),e3⟩) (fun W v v' h1 h2=>(radd_nv (by decide) (by decide) h1.nv h2).mono fun r w' ⟨v,e1,e2,e3⟩=>⟨v,e1,e2.more (by decide),e3⟩) rfl cQ (fun W v v' h1 h2=>rcmp_nv (by decide) (by decide) h1 h2) (sgn_below hClt) (fun W v hv=>bits_nv hv)
 ·have eF:vF true (fD n).w (vG (fD n) B)=V/2%4*2^(fD n).w+vG (fD n) B%2^(fD n).w:=by unfold vF vV;simp only [if_true];rw [← hvv,if_neg h24]
  have eL:vL true (fD n).w (vG (fD n) B)=8+V%2:=by unfold vL vV;simp only [if_true];rw [← hvv,if_neg h24]
  rw [eF,eL]
  rw [eL] at hClt
  have q8:=hF0 (V/2%4) (by omega)
  have o1:=or_lay (V/2%4) (vG (fD n) B%2^(fD n).w) (fD n).w hlow (by omega)
  rw [Int.natCast_mul] at o1
  have o2:=and_lay (V/2) 2 (by decide) (by omega)
  rw [show (((2^2:Nat):Int)-1)=3 by decide,show V/2%2^2=V/2%4 from rfl,show ((V/2:Nat):Int)=(V:Int)/2 by omega] at o2
  have o3:=and_lay V 1 (by decide) (by omega)
  rw [show (((2^1:Nat):Int)-1)=1 by decide,show V%2^1=V%2 from rfl] at o3
  exact vmn_db n _ _ _ _ _ _ _ _ _ _ B _ _ _ _ _ (fD n).w w (by omega) (by omega) (by omega) (by omega) (by omega) (by omega) Cc.hAb Cc.cF1 Cc.cF2 Cc.cF3 Cc.cM1 Cc.cM3 Cc.cB2 (by omega) w12 hVe (by omega) (by omega) Cc.hsg _ _ _ ((8+V%2:Nat):Int) hH (by omega) (by omega) (by omega) (by omega) (by omega) (by omega) (by omega) (by omega) ((V/2%4:Nat):Int) ((V%2:Nat):Int) 0 _ (dlU (fD n).j (vR (fD n) B)) (10^(3*(fD n).j)) ((8+V%2)*10^(3*(fD n).j)) ((8+V%2)*10^(3*(fD n).j)+dlU (fD n).j (vR (fD n) B)) (10^(3*(fD n).j+1)) (8+V%2) cO cS b30 b31 (by omega) cU hU hL (by rw [← Int.natCast_mul];omega) (by rw [← Int.natCast_mul];omega) o1 o2 o3 (by omega) (by omega) (by omega) cP (fun W v v' h1 h2=>(rtimes_nt (by decide) (by decide) h1 h2).mono fun r w' ⟨v,e1,e2,e3⟩=>⟨v,e1,e2.more (by decide),e3⟩) (fun W v v' h1 h2=>(radd_nv (by decide) (by decide) h1.nv h2).mono fun r w' ⟨v,e1,e2,e3⟩=>⟨v,e1,e2.more (by decide),e3⟩) rfl cQ (fun W v v' h1 h2=>rcmp_nv (by decide) (by decide) h1 h2) (sgn_below hClt) (fun W v hv=>bits_nv hv)
theorem vmean_p {n:Int} (h:decN n) (hdn:(fD n).dn=false) (B:Nat) (w:World) (hB:B<2^256) (h30:vV (fD n).w (vG (fD n) B)≠30) (h31:vV (fD n).w (vG (fD n) B)≠31) :
  Calls Tryz.prog 47 #[.int .i64 n,A4 B] w fun r w'=>r=.returned (vM (fD n) B).v/\Below w.heap.size w w':=by
 have ho:=fD_ok n
 obtain ⟨w6,w12,t20,t110,j2,j11,t64,l0,l1,H0,H1⟩:=ok_bounds ho
 have Cc:=vc_of h B hB
 have hg:=g_lim ho B
 have hr:=vR_lt (fD n) B
 have p2:=p_200 (a:=(fD n).t) (by omega)
 have p3:(2:Nat)^220<2^256:=by decide
 have cO:=Cc.cO
 have cS:=Cc.cS
 rw [hdn] at cO cS
 have b30:(((vV (fD n).w (vG (fD n) B):Nat):Int) == 30)=false:=by rw [beq_eq_false_iff_ne];omega
 have b31:(((vV (fD n).w (vG (fD n) B):Nat):Int) == 31)=false:=by rw [beq_eq_false_iff_ne];omega
 have hH:(2:Int)^(fD n).w=((2^(fD n).w:Nat):Int):=(powCast _).symm
 have hV1:=Cc.hV1
 have hVe:=Cc.hV
 have hvv:vV (fD n).w (vG (fD n) B)=vG (fD n) B/2^(fD n).w:=rfl
 have hlow:vG (fD n) B%2^(fD n).w<2^(fD n).w:=Nat.mod_lt _ (Nat.two_pow_pos _)
 have cQ:∀ W,CE 25 #[.int .u64 10,.int .i64 (3*((fD n).j:Int)+1)] W (NV 50000 (10^(3*(fD n).j+1))):=fun W=>by
  have:=rpowt_nv (3*(fD n).j+1) W (by omega)
  rw [show ((3*(fD n).j+1:Nat):Int)=3*((fD n).j:Int)+1 by omega] at this
  exact this
 have hU:vR (fD n) B<2^256:=by omega
 have hgl:=vG_lt (fD n) B
 have w5:2^((fD n).w+5)=32*2^(fD n).w:=by rw [Nat.pow_add,Nat.mul_comm]
 have w2:2^((fD n).w+2)=4*2^(fD n).w:=by rw [Nat.pow_add,Nat.mul_comm]
 have eM:vM (fD n) B=⟨1,vS (fD n) B,false,(vF false (fD n).w (vG (fD n) B):Int)+(fD n).l,if vL false (fD n).w (vG (fD n) B)*2^(fD n).t+vR (fD n) B<10^(3*(fD n).j+1) then vL false (fD n).w (vG (fD n) B)*2^(fD n).t+vR (fD n) B else 0⟩:=by
  have hq:vQ (fD n)=2^(fD n).t:=by unfold vQ;rw [hdn];rfl
  have ht:vT (fD n) (vR (fD n) B)=vR (fD n) B:=by unfold vT;rw [hdn];rfl
  unfold vM vD
  rw [if_neg h30,if_neg h31,hdn,hq,ht]
 rw [eM]
 have hDV:∀ x:Int,(Dat.mk 1 (vS (fD n) B) false x 0).v=.agg #[.int .i64 1,.bool (vS (fD n) B),.bool false,.int .i64 x,.int .u64 0,.int .u64 0,.int .u64 0,.int .u64 0]:=fun x=>by unfold Dat.v DV;simp only [W4_zero]
 generalize vV (fD n).w (vG (fD n) B)=V at *
 by_cases h24:V<24
 ·have eF:vF false (fD n).w (vG (fD n) B)=vG (fD n) B/8:=by unfold vF vV;simp only [Bool.false_eq_true,if_false];rw [← hvv,if_pos h24]
  have eL:vL false (fD n).w (vG (fD n) B)=vG (fD n) B%8:=by unfold vL vV;simp only [Bool.false_eq_true,if_false];rw [← hvv,if_pos h24]
  rw [eF,eL]
  have o2:=and_lay (vG (fD n) B) 3 (by decide) (by omega)
  rw [show (((2^3:Nat):Int)-1)=7 by decide,show vG (fD n) B%2^3=vG (fD n) B%8 from rfl] at o2
  have hF:(vG (fD n) B:Int)/8=((vG (fD n) B/8:Nat):Int):=by omega
  by_cases hlt:vG (fD n) B%8*2^(fD n).t+vR (fD n) B<10^(3*(fD n).j+1)
  ·rw [if_pos hlt]
   exact vmn_ps n _ _ _ _ _ _ _ _ _ _ B _ _ _ _ _ (fD n).w w (by omega) (by omega) (by omega) (by omega) (by omega) (by omega) Cc.hAb Cc.cF1 Cc.cF2 Cc.cF3 Cc.cM1 Cc.cM3 Cc.cB2 (by omega) w12 hVe (by omega) (by omega) Cc.hsg _ _ _ hH (by omega) (by omega) (by omega) (by omega) (by omega) (by omega) (by omega) (by omega) 0 0 0 _ 0 0 (vG (fD n) B%8*2^(fD n).t) _ (10^(3*(fD n).j+1)) (vG (fD n) B%8) cO cS b30 b31 (by omega) hF o2 hU (fun W v h1=>(rleft_nt (fD n).t (by decide) (by omega) h1).mono fun r w' ⟨v,e1,e2,e3⟩=>⟨v,e1,e2.more (by omega),e3⟩) (fun W v v' h1 h2=>(radd_nv (by decide) (by decide) h1.nv h2).mono fun r w' ⟨v,e1,e2,e3⟩=>⟨v,e1,e2.more (by decide),e3⟩) rfl cQ (fun W v v' h1 h2=>rcmp_nv (by decide) (by decide) h1 h2) (sgn_below hlt) (fun W v hv=>bits_nv hv)
  ·rw [if_neg hlt,hDV]
   exact vmn_pso n _ _ _ _ _ _ _ _ _ _ B _ _ _ _ _ (fD n).w w (by omega) (by omega) (by omega) (by omega) (by omega) (by omega) Cc.hAb Cc.cF1 Cc.cF2 Cc.cF3 Cc.cM1 Cc.cM3 Cc.cB2 (by omega) w12 hVe (by omega) (by omega) Cc.hsg _ _ _ hH (by omega) (by omega) (by omega) (by omega) (by omega) (by omega) (by omega) (by omega) 0 0 0 _ 0 0 (vG (fD n) B%8*2^(fD n).t) (vG (fD n) B%8*2^(fD n).t+vR (fD n) B) (10^(3*(fD n).j+1)) (vG (fD n) B%8) cO cS b30 b31 (by omega) hF o2 hU (fun W v h1=>(rleft_nt (fD n).t (by decide) (by omega) h1).mono fun r w' ⟨v,e1,e2,e3⟩=>⟨v,e1,e2.more (by omega),e3⟩) (fun W v v' h1 h2=>(radd_nv (by decide) (by decide) h1.nv h2).mono fun r w' ⟨v,e1,e2,e3⟩=>⟨v,e1,e2.more (by decide),e3⟩) rfl cQ (fun W v v' h1 h2=>rcmp_nv (by decide) (by decide) h1 h2) (sgn_above hlt) (fun W=>bits_none W)
 ·have eF:vF false (fD n).w (vG (fD n) B)=vG (fD n) B/2%2^((fD n).w+2):=by unfold vF vV;simp only [Bool.false_eq_true,if_false];rw [← hvv,if_neg h24]
  have eL:vL false (fD n).w (vG (fD n) B)=8+vG (fD n) B%2:=by unfold vL vV;simp only [Bool.false_eq_true,if_false];rw [← hvv,if_neg h24]
  rw [eF,eL]
  have hm:vG (fD n) B/2%2^((fD n).w+2)<2^((fD n).w+2):=Nat.mod_lt _ (Nat.two_pow_pos _)
  have hH4:(2:Int)^((fD n).w+2)=((2^((fD n).w+2):Nat):Int):=(powCast _).symm
  have o1:=and_lay (vG (fD n) B/2) ((fD n).w+2) (by omega) (by omega)
  rw [show ((vG (fD n) B/2:Nat):Int)=(vG (fD n) B:Int)/2 by omega] at o1
  have o3:=and_lay (vG (fD n) B) 1 (by decide) (by omega)
  rw [show (((2^1:Nat):Int)-1)=1 by decide,show vG (fD n) B%2^1=vG (fD n) B%2 from rfl] at o3
  by_cases hlt:(8+vG (fD n) B%2)*2^(fD n).t+vR (fD n) B<10^(3*(fD n).j+1)
  ·rw [if_pos hlt]
   exact vmn_pb n _ _ _ _ _ _ _ _ _ _ B _ _ _ _ _ (fD n).w w (by omega) (by omega) (by omega) (by omega) (by omega) (by omega) Cc.hAb Cc.cF1 Cc.cF2 Cc.cF3 Cc.cM1 Cc.cM3 Cc.cB2 (by omega) w12 hVe (by omega) (by omega) Cc.hsg _ _ ((8+vG (fD n) B%2:Nat):Int) hH (by omega) (by omega) (by omega) (by omega) (by omega) (by omega) (by omega) (by omega) 0 ((vG (fD n) B%2:Nat):Int) ((2^((fD n).w+2):Nat):Int) _ 0 0 ((8+vG (fD n) B%2)*2^(fD n).t) _ (10^(3*(fD n).j+1)) (8+vG (fD n) B%2) cO cS b30 b31 (by omega) hH4 (by omega) (by omega) o1 o3 (by omega) (by omega) (by omega) hU (fun W v h1=>(rleft_nt (fD n).t (by decide) (by omega) h1).mono fun r w' ⟨v,e1,e2,e3⟩=>⟨v,e1,e2.more (by omega),e3⟩) (fun W v v' h1 h2=>(radd_nv (by decide) (by decide) h1.nv h2).mono fun r w' ⟨v,e1,e2,e3⟩=>⟨v,e1,e2.more (by decide),e3⟩) rfl cQ (fun W v v' h1 h2=>rcmp_nv (by decide) (by decide) h1 h2) (sgn_below hlt) (fun W v hv=>bits_nv hv)
  ·rw [if_neg hlt,hDV]
   exact vmn_pbo n _ _ _ _ _ _ _ _ _ _ B _ _ _ _ _ (fD n).w w (by omega) (by omega) (by omega) (by omega) (by omega) (by omega) Cc.hAb Cc.cF1 Cc.cF2 Cc.cF3 Cc.cM1 Cc.cM3 Cc.cB2 (by omega) w12 hVe (by omega) (by omega) Cc.hsg _ _ ((8+vG (fD n) B%2:Nat):Int) hH (by omega) (by omega) (by omega) (by omega) (by omega) (by omega) (by omega) (by omega) 0 ((vG (fD n) B%2:Nat):Int) ((2^((fD n).w+2):Nat):Int) _ 0 0 ((8+vG (fD n) B%2)*2^(fD n).t) ((8+vG (fD n) B%2)*2^(fD n).t+vR (fD n) B) (10^(3*(fD n).j+1)) (8+vG (fD n) B%2) cO cS b30 b31 (by omega) hH4 (by omega) (by omega) o1 o3 (by omega) (by omega) (by omega) hU (fun W v h1=>(rleft_nt (fD n).t (by decide) (by omega) h1).mono fun r w' ⟨v,e1,e2,e3⟩=>⟨v,e1,e2.more (by omega),e3⟩) (fun W v v' h1 h2=>(radd_nv (by decide) (by decide) h1.nv h2).mono fun r w' ⟨v,e1,e2,e3⟩=>⟨v,e1,e2.more (by decide),e3⟩) rfl cQ (fun W v v' h1 h2=>rcmp_nv (by decide) (by decide) h1 h2) (sgn_above hlt) (fun W=>bits_none W)
theorem rmean14 {n:Int} (h:decN n) (B:Nat) (w:World) (hB:B<2^256) :
  Calls Tryz.prog 47 #[.int .i64 n,A4 B] w fun r w'=>r=.returned (vM (fD n) B).v/\Below w.heap.size w w':=by
 by_cases e:vV (fD n).w (vG (fD n) B)=30∨vV (fD n).w (vG (fD n) B)=31
 ·exact vmean_s h B w hB e
 ·cases hdn:(fD n).dn
  ·exact vmean_p h hdn B w hB (fun q=>e (Or.inl q)) (fun q=>e (Or.inr q))
  ·exact vmean_d h hdn B w hB (fun q=>e (Or.inl q)) (fun q=>e (Or.inr q))
section
def vUD (n:Int) (B:Nat):Dat:=if goodD n B then vM (fD n) B else ⟨0,false,false,0,0⟩
def vUC (n:Int) (B:Nat):Bool:=decide (goodD n B/\vP (fD n) (vM (fD n) B)=B)
def vUE (n:Int) (B:Nat):Int:=if goodD n B then 0 else 1
def vCV (n:Int) (B:Nat):Nat:=if goodD n B then vP (fD n) (vM (fD n) B) else 0
theorem vUD_256 (n:Int) (B:Nat):(vUD n B).k<2^256:=by
 unfold vUD
 split
 ·exact vM_256 (fD_ok n) B
 ·decide
theorem eq_words {X Y:Nat} (hX:X<2^256) (hY:Y<2^256):decide (W4 X 0=W4 Y 0/\W4 X 1=W4 Y 1/\W4 X 2=W4 Y 2/\W4 X 3=W4 Y 3)=decide (X=Y):=by
 refine decide_eq_decide.2 ⟨fun ⟨h0,h1,h2,h3⟩=>A4_inj hX hY fun i hi=>?_,fun h=>by rw [h];exact ⟨rfl,rfl,rfl,rfl⟩⟩
 have:i=0∨i=1∨i=2∨i=3:=by omega
 rcases this with rfl | rfl | rfl | rfl
 ·exact h0
 ·exact h1
 ·exact h2
 ·exact h3
attribute [local irreducible] W4
section
variable (n:Int) (B:Nat) (w:World)
theorem vun_n (c16:∀ W,CB 15 #[.int .i64 n,A4 B] W (.bool false)) :
  CB 21 #[.int .i64 n,A4 B] w (.tuple #[.agg #[.int .i64 0,.bool false,.bool false,.int .i64 0,.int .u64 0,.int .u64 0,.int .u64 0,.int .u64 0],.bool false,.int .i64 1]):=by
 have hsm:=cell_set_map
 go_enter Tryz.func21,Tryz.ntmps21
 go_wp2_with (go_at_call 15;refine (c16 _).mono ?_;rintro r w1 ⟨rfl,hb1⟩;obtain ⟨_,_,_,_,hA1,_⟩:=wz w hb1;obtain ⟨_,_⟩:=zf hb1 (w.heap.size+1);clear hb1)
 exact bodyPost_ret (by simp only [results,Tryz.results21];go_simp) rfl ⟨rfl,bgo⟩
theorem vun_y (c x:Int) (s g:Bool) (k P:Nat) (E:Int) (R:Bool) (hR:decide (W4 P 0=W4 B 0/\W4 P 1=W4 B 1/\W4 P 2=W4 B 2/\W4 P 3=W4 B 3)=R)
  (c16:∀ W,CB 15 #[.int .i64 n,A4 B] W (.bool true))
  (c17:∀ W,CB 47 #[.int .i64 n,A4 B] W (DV c s g x k))
  (c13:∀ W,CB 27 #[.int .i64 n,DV c s g x k] W (.tuple #[A4 P,.int .i64 E])) :
  CB 21 #[.int .i64 n,A4 B] w (.tuple #[DV c s g x k,.bool R,.int .i64 0]):=by
 have h24:=eq24 (W4 P 0) (W4 P 1) (W4 P 2) (W4 P 3) (W4 B 0) (W4 B 1) (W4 B 2) (W4 B 3)
 rw [hR] at h24
 clear hR
 have hsm:=cell_set_map
 unfold DV A4 at *
 go_enter Tryz.func21,Tryz.ntmps21
 go_wp2_with (first
  | (go_at_call 15;refine (c16 _).mono ?_;rintro r w1 ⟨rfl,hb1⟩;obtain ⟨_,_,_,_,hA1,_⟩:=wz w hb1;obtain ⟨_,_⟩:=zf hb1 (w.heap.size+1);clear hb1)
  | (go_at_call 47;refine (c17 _).mono ?_;rintro r w2 ⟨rfl,hb2⟩;obtain ⟨_,_,_,_,hA2,_⟩:=wz w hb2;obtain ⟨_,_⟩:=zf hb2 (w.heap.size+1);clear hb2)
  | (go_at_call 27;refine (c13 _).mono ?_;rintro r w3 ⟨rfl,hb3⟩;obtain ⟨_,_,_,_,hA3,_⟩:=wz w hb3;obtain ⟨_,_⟩:=zf hb3 (w.heap.size+1);obtain ⟨_,_⟩:=zf hb3 w2.heap.size;clear hb3))
 go_region_with (fail)
 all_goals go_wp2
 all_goals exact bodyPost_ret (by simp only [results,Tryz.results21];go_simp) rfl ⟨rfl,bgo⟩
theorem vcn_n (c11:∀ W,CB 21 #[.int .i64 n,A4 B] W (.tuple #[.agg #[.int .i64 0,.bool false,.bool false,.int .i64 0,.int .u64 0,.int .u64 0,.int .u64 0,.int .u64 0],.bool false,.int .i64 1])) :
  CB 16 #[.int .i64 n,A4 B] w (.tuple #[Z4,.int .i64 1]):=by
 have hsm:=cell_set_map
 go_enter Tryz.func16,Tryz.ntmps16
 go_wp2_with (go_at_call 21;refine (c11 _).mono ?_;rintro r w1 ⟨rfl,hb1⟩;obtain ⟨_,_,_,_,hA1,_⟩:=wz w hb1;obtain ⟨_,_⟩:=zf hb1 (w.heap.size+1);clear hb1)
 exact bodyPost_ret (by simp only [results,Tryz.results16];go_simp) rfl ⟨rfl,bgo⟩
theorem vcn_y (c x:Int) (s g R:Bool) (k P:Nat) (E:Int)
  (c11:∀ W,CB 21 #[.int .i64 n,A4 B] W (.tuple #[DV c s g x k,.bool R,.int .i64 0]))
  (c13:∀ W,CB 27 #[.int .i64 n,DV c s g x k] W (.tuple #[A4 P,.int .i64 E])) :
  CB 16 #[.int .i64 n,A4 B] w (.tuple #[A4 P,.int .i64 E]):=by
 have hsm:=cell_set_map
 unfold DV A4 at *
 go_enter Tryz.func16,Tryz.ntmps16
 go_wp2_with (first
  | (go_at_call 21;refine (c11 _).mono ?_;rintro r w1 ⟨rfl,hb1⟩;obtain ⟨_,_,_,_,hA1,_⟩:=wz w hb1;obtain ⟨_,_⟩:=zf hb1 (w.heap.size+1);clear hb1)
  | (go_at_call 27;refine (c13 _).mono ?_;rintro r w2 ⟨rfl,hb2⟩;obtain ⟨_,_,_,_,hA2,_⟩:=wz w hb2;obtain ⟨_,_⟩:=zf hb2 (w.heap.size+1);obtain ⟨_,_⟩:=zf hb2 w1.heap.size;clear hb2))
 exact bodyPost_ret (by simp only [results,Tryz.results16];go_simp) rfl ⟨rfl,bgo⟩
end
theorem zero_v:(Dat.mk 0 false false 0 0).v=.agg #[.int .i64 0,.bool false,.bool false,.int .i64 0,.int .u64 0,.int .u64 0,.int .u64 0,.int .u64 0]:=by unfold Dat.v DV;simp only [W4_zero]
theorem vPV_of {n:Int} {B:Nat} (h:goodD n B):vPV n (vM (fD n) B)=vP (fD n) (vM (fD n) B)/\vPE n (vM (fD n) B)=0:=by
 have hi:=vM_is (fD_ok n) B
 unfold vPV vPE
 exact ⟨if_pos ⟨h.1,hi⟩,by rw [if_pos h.1,if_pos hi]⟩
theorem runp14 (n:Int) (B:Nat) (w:World) (hB:B<2^256) :
  CB 21 #[.int .i64 n,A4 B] w (.tuple #[(vUD n B).v,.bool (vUC n B),.int .i64 (vUE n B)]):=by
 have c16:=fun W=>rgood14 n B hB W
 unfold vUD vUC vUE
 by_cases h:goodD n B
 ·rw [if_pos h,if_pos h]
  rw [decide_eq_true h] at c16
  obtain ⟨e1,e2⟩:=vPV_of h
  have c13:=fun W=>rpk14 n (vM (fD n) B) W (vM_256 (fD_ok n) B)
  rw [e1] at c13
  refine vun_y n B w _ _ _ _ _ _ _ _ ?_ c16 (fun W=>rmean14 h.1 B W hB) c13
  rw [eq_words (vP_256 (fD_ok n) (vM_is (fD_ok n) B)) hB]
  exact decide_eq_decide.2 ⟨fun q=>⟨h,q⟩,fun q=>q.2⟩
 ·rw [if_neg h,if_neg h,decide_eq_false (fun q=>h q.1),zero_v]
  rw [decide_eq_false h] at c16
  exact vun_n n B w c16
theorem rcan14 (n:Int) (B:Nat) (w:World) (hB:B<2^256) :
  CB 16 #[.int .i64 n,A4 B] w (.tuple #[A4 (vCV n B),.int .i64 (vUE n B)]):=by
 have c11:=fun W=>runp14 n B W hB
 unfold vCV vUE
 unfold vUD vUC vUE at c11
 by_cases h:goodD n B
 ·rw [if_pos h,if_pos h]
  rw [if_pos h,if_pos h] at c11
  obtain ⟨e1,e2⟩:=vPV_of h
  have c13:=fun W=>rpk14 n (vM (fD n) B) W (vM_256 (fD_ok n) B)
  rw [e1,e2] at c13
  exact vcn_y n B w _ _ _ _ _ _ _ _ c11 c13
 ·rw [if_neg h,if_neg h,Z4_eq]
  rw [if_neg h,if_neg h,decide_eq_false (fun q=>h q.1),zero_v] at c11
  exact vcn_n n B w c11
end
section
theorem tnX_eq {N D:Nat} {E:Int} (hN:0<N) (hD:0<D) (h:TnE N D E):tnX N D=E:=(tnX_is hN hD).only h
theorem third:rqD 7 0 false 1 3 0 0=⟨1,false,false,-7,3333333⟩/\rqF 7 0 false 1 3 0=8/\rqE 7 0 1 3=0:=by
 have e0:rqE 7 0 1 3=0:=by
  have b1:bl 1<=2:=bl_le.2 (by decide)
  have b3:bl 3<=2:=bl_le.2 (by decide)
  unfold rqE
  rw [if_pos ⟨by unfold decN;omega,by unfold knB;omega,by decide⟩,if_neg (by omega)]
 have eX:tnX (1*10^(clT 0).toNat) (3*10^(-(clT 0)).toNat)=-1:=tnX_eq (by decide) (by decide) ⟨by decide,by decide⟩
 refine ⟨?_,?_,e0⟩
 ·unfold rqD
  rw [if_pos e0,if_neg (by decide),eX]
  have h1:(dkD (fD 7) 0 false (1*10^(clT 0).toNat) (3*10^(-(clT 0)).toNat) (-1) 0).c=1/\(dkD (fD 7) 0 false (1*10^(clT 0).toNat) (3*10^(-(clT 0)).toNat) (-1) 0).s=false/\(dkD (fD 7) 0 false (1*10^(clT 0).toNat) (3*10^(-(clT 0)).toNat) (-1) 0).g=false/\(dkD (fD 7) 0 false (1*10^(clT 0).toNat) (3*10^(-(clT 0)).toNat) (-1) 0).x=-7/\(dkD (fD 7) 0 false (1*10^(clT 0).toNat) (3*10^(-(clT 0)).toNat) (-1) 0).k=3333333:=by decide +kernel
  generalize dkD (fD 7) 0 false (1*10^(clT 0).toNat) (3*10^(-(clT 0)).toNat) (-1) 0=R at h1 ⊢
  obtain ⟨c,s,g,x,k⟩:=R
  simp only at h1
  obtain ⟨rfl,rfl,rfl,rfl,rfl⟩:=h1
  rfl
 ·unfold rqF
  rw [if_pos e0,if_neg (by decide),eX]
  decide +kernel
attribute [local irreducible] W4 Nt
end
def i6 (x:Int):Prop:=-9223372036854775808<=x/\x<=9223372036854775807
section
theorem dof_dec {n:Int} (h:decN n) (w:World) (hT:Tab w):CB 70 #[.int .i64 n] w (.tuple #[IDec n (nameN n) (widthN n) (3*((fD n).j:Int)+1) (expN n) (fD n).l (fD n).m (payN n) (denseN n),.int .i64 0]):=by
 obtain ⟨hok,h1,h2,h3,h4,h5,h6,h7,h8⟩:=dec_fields h
 have c:=ofv_any n w hT
 rw [show infoE n=0 from if_pos hok,h1,h2,h4,h5,h6] at c
 exact c
theorem not_decE {n:Int} (hok:okN n) (h:¬ decN n):(baseN n != 10)=true:=by
 unfold okN at hok
 unfold decN at h
 have:n=1∨n=2∨n=3∨n=4∨n=5∨n=6:=by omega
 rcases this with rfl | rfl | rfl | rfl | rfl | rfl <;> decide
section
variable {n d:Int} {N D:Nat} {vn vd:Value} {w:World} (hT:Tab w) (hn:Nt 2001 N vn w) (hd:Nt 2001 D vd w)
include hT hn hd
theorem dchk_bad (hE:rqE n d N D≠0):CB 158 #[.int .i64 n,.int .i64 d,vn,vd] w (.tuple #[IZ,.int .i64 (rqE n d N D)]):=by
 have c66:=fun W (hb:Below w.heap.size w W)=>nlen_v (by decide) (hn.next hb)
 have c66d:=fun W (hb:Below w.heap.size w W)=>nlen_v (by decide) (hd.next hb)
 unfold rqE at hE ⊢
 by_cases h1:decN n
 ·by_cases h2:knB d
  ·by_cases h3:D=0
   ·rw [if_neg (fun h=>h.2.2 h3)]
    exact dcheck_z n d _ _ _ _ _ _ _ _ N D vn vd w hT c66 c66d (decide_eq_true h2) (by rw [h3];rfl) (fun W hT'=>dof_dec h1 W hT')
   ·rw [if_pos ⟨h1,h2,h3⟩] at hE ⊢
    have hD0:(((bl D:Nat):Int) == 0)=false:=by rw [bl_nought];exact decide_eq_false h3
    by_cases h4:25600<bl N
    ·rw [if_pos (Or.inl h4)]
     exact dcheck_n n d _ _ _ _ _ _ _ _ N D vn vd w hT c66 c66d (decide_eq_true h2) hD0 (by omega) (fun W hT'=>dof_dec h1 W hT')
    ·by_cases h5:25600<bl D
     ·rw [if_pos (Or.inr h5)]
      exact dcheck_l n d _ _ _ _ _ _ _ _ N D vn vd w hT c66 c66d (decide_eq_true h2) hD0 (by omega) (by omega) (fun W hT'=>dof_dec h1 W hT')
     ·exact absurd (if_neg (fun h=>h.elim h4 h5)) hE
  ·rw [if_neg (fun h=>h2 h.2.1)]
   exact dcheck_d n d _ _ _ _ _ _ _ _ N D vn vd w hT c66 c66d (decide_eq_false h2) (fun W hT'=>dof_dec h1 W hT')
 ·rw [if_neg (fun h=>h1 h.1)]
  by_cases hok:okN n
  ·refine dcheck_b n d (nameN n) (widthN n) (precN n) (expN n) (leastN n) (mostN n) (payN n) (baseN n) (denseN n) N D vn vd w hT c66 c66d (numN n) (not_decE hok h1) (fun W hT'=>?_)
   have c:=ofv_any n W hT'
   rw [show infoE n=0 from if_pos hok] at c
   exact c
  ·refine dcheck_e n d (nameN n) (widthN n) (precN n) (expN n) (leastN n) (mostN n) (payN n) (baseN n) (denseN n) N D vn vd w hT c66 c66d (numN n) 1 (by decide) (fun W hT'=>?_)
   have c:=ofv_any n W hT'
   rw [show infoE n=1 from if_neg hok] at c
   exact c
theorem dchk_ok (hE:rqE n d N D=0):CB 158 #[.int .i64 n,.int .i64 d,vn,vd] w (.tuple #[IDec n (nameN n) (widthN n) (3*((fD n).j:Int)+1) (expN n) (fD n).l (fD n).m (payN n) (denseN n),.int .i64 0]):=by
 have c66:=fun W (hb:Below w.heap.size w W)=>nlen_v (by decide) (hn.next hb)
 have c66d:=fun W (hb:Below w.heap.size w W)=>nlen_v (by decide) (hd.next hb)
 obtain ⟨h1,h2,h3,h4,h5⟩:=rq_zero hE
 exact dcheck_k n d _ _ _ _ _ _ _ _ N D vn vd w hT c66 c66d (decide_eq_true h2) (by rw [bl_nought];exact decide_eq_false h3) (by omega) (by omega) (fun W hT'=>dof_dec h1 W hT')
end
theorem ten_256 {f:DF} (hf:f.ok):(10:Nat)^(3*f.j+1)<2^256:=by
 obtain ⟨m0,m1,l0,l1,lm,j0,j1⟩:=ok_m hf
 exact Nat.lt_of_le_of_lt (Nat.pow_le_pow_right (by decide) (show 3*f.j+1<=34 by omega)) (by decide)
theorem drd_v {n d x y:Int} {s:Bool} {N D:Nat} {vn vd:Value} {w:World} (hT:Tab w) (hn:Nt 2001 N vn w) (hd:Nt 2001 D vd w) :
  CB 126 #[.int .i64 n,.int .i64 d,.bool s,vn,vd,.int .i64 x,.int .i64 y] w (.tuple #[(rqD n d s N D x y).v,.int .i64 (rqF n d s N D x),.int .i64 (rqE n d N D)]):=by
 by_cases hE:rqE n d N D=0
 ·have c17:=fun W (hb:Below w.heap.size w W)=>dchk_ok (hT.go hb) (hn.next hb) (hd.next hb) hE
  have c18:=fun W (hb:Below w.heap.size w W)=>nlen_v (by decide) (hn.next hb)
  obtain ⟨h1,h2,h3,h4,h5⟩:=rq_zero hE
  have hf:=fD_ok n
  obtain ⟨m0,m1,l0,l1,lm,j0,j1⟩:=ok_m hf
  by_cases hN:N=0
  ·have e1:rqD n d s N D x y=⟨1,s,false,min (max y (fD n).l) (fD n).m,0⟩:=by unfold rqD;rw [if_pos hE,if_pos hN]
   have e2:rqF n d s N D x=0:=by unfold rqF;rw [if_pos hE,if_pos hN]
   rw [e1,e2,hE]
   have ev:(Dat.mk 1 s false (min (max y (fD n).l) (fD n).m) 0).v=.agg #[.int .i64 1,.bool s,.bool false,.int .i64 (min (max y (fD n).l) (fD n).m),.int .u64 0,.int .u64 0,.int .u64 0,.int .u64 0]:=by
    unfold Dat.v DV
    simp only [W4_zero]
   rw [ev]
   exact ddec_z n d x y s vn vd w _ _ _ _ _ _ _ _ N _ _ _ _ _ _ _ _ c17 c18 (by rw [hN];rfl) _ rfl (fun W=>dfin_n s _ W)
  ·obtain ⟨L,hL,_⟩:=dlead_v hn hd hN h3 h4 h5
   have c20:∀ W,Below w.heap.size w W->CB 160 #[vn,vd] W (.int .i64 L):=fun W hb=>by
    obtain ⟨L',hL',c⟩:=dlead_v (hn.next hb) (hd.next hb) hN h3 h4 h5
    rw [hL'.only hL] at c
    exact c
   obtain ⟨b1,b2⟩:=tn_bd (by omega) (by omega) h4 h5 hL
   obtain ⟨r1,r2⟩:=drd_num (s:=s) (x:=x) (y:=y) hE hN hL
   have hTn:=TnE_sh hL (pX (fD n) L x)
   have c21:∀ W,CB 161 #[IDec n (nameN n) (widthN n) (3*((fD n).j:Int)+1) (expN n) (fD n).l (fD n).m (payN n) (denseN n),.int .i64 L,.int .i64 x] W (.int .i64 (pX (fD n) L x)):=fun W =>
    dwithin_v n _ _ _ _ _ _ _ _ L x W (by omega) (by omega) (by omega) (by omega)
   have hXb:(fD n).l-2-L<=pX (fD n) L x/\pX (fD n) L x<=(fD n).m+(3*(fD n).j+1)-L:=by unfold pX;omega
   have hC0:=dkC0_at (fD n) d s N D (pX (fD n) L x) (L+pX (fD n) L x)
   have hX0:=dkX_at (fD n) N D (pX (fD n) L x) (L+pX (fD n) L x)
   have hle:=dkC0_le (f:=fD n) (d:=d) (s:=s) (Nat.mul_pos (show 0<D by omega) (ten_pos (-(pX (fD n) L x)).toNat)) hTn
   have hCl:=dkC_lt (f:=fD n) (d:=d) (s:=s) (Nat.mul_pos (show 0<D by omega) (ten_pos (-(pX (fD n) L x)).toNat)) hTn
   have h256:=ten_256 hf
   have hql:=dkE_ge (fD n) d s (N*10^(pX (fD n) L x).toNat) (D*10^(-(pX (fD n) L x)).toNat) (L+pX (fD n) L x)
   have hqq:max (fD n).l (L+pX (fD n) L x-(3*((fD n).j:Int)+1)+1)=dkQ (fD n) (L+pX (fD n) L x):=by unfold dkQ;omega
   have hqb:-20000<=dkQ (fD n) (L+pX (fD n) L x)/\dkQ (fD n) (L+pX (fD n) L x)<=20000:=by unfold dkQ;omega
   have hdf:-9100<=pX (fD n) L x-dkQ (fD n) (L+pX (fD n) L x)/\pX (fD n) L x-dkQ (fD n) (L+pX (fD n) L x)<=9100:=by unfold dkQ;omega
   rw [r1,r2,hE]
   clear r1 r2 hL
   unfold dkD dkF
   unfold dkM at *
   generalize hEq:dkE (fD n) d s (N*10^(pX (fD n) L x).toNat) (D*10^(-(pX (fD n) L x)).toNat) (L+pX (fD n) L x)=qe at *
   generalize hCq:dkC (fD n) d s (N*10^(pX (fD n) L x).toNat) (D*10^(-(pX (fD n) L x)).toNat) (L+pX (fD n) L x)=ce at *
   unfold dkE at hEq
   unfold dkC at hCq
   rw [hX0]
   generalize dkC0 (fD n) d s (N*10^(pX (fD n) L x).toNat) (D*10^(-(pX (fD n) L x)).toNat) (L+pX (fD n) L x)=C at *
   clear hX0 hTn
   generalize dkQ (fD n) (L+pX (fD n) L x)=q0 at *
   generalize pX (fD n) L x=X at *
   have c22:∀ W,Below w.heap.size w W->Calls Tryz.prog 162 #[vn,vd,.int .i64 (X-q0)] W fun r w'=>∃ va vb,r=.returned (.tuple #[va,vb])/\Below W.heap.size W w'/\(Calls Tryz.prog 163 #[.int .i64 d,.bool s,va,vb] w' fun r w''=>∃ v,r=.returned (.tuple #[v,.bool (decide (N*10^(X-q0).toNat%(D*10^(-(X-q0)).toNat)=0))])/\Nz 2003 C v w''/\Below w'.heap.size w' w''):=fun W hb=>by
    refine (dscaled_v (X-q0) (hn.next hb) (hd.next hb) (by omega) (by omega) (by omega)).mono ?_
    rintro r w' ⟨va,vb,e1,e2,e3,e4⟩
    refine ⟨va,vb,e1,e4,?_⟩
    rw [hC0]
    have t1:=bl_mul N (10^(X-q0).toNat)
    have t2:=bl_mul D (10^(-(X-q0)).toNat)
    have t3:=ten_bl (X-q0).toNat
    have t4:=ten_bl (-(X-q0)).toNat
    exact whole_cv d s e2 e3 (Nat.ne_of_gt (Nat.mul_pos (by omega) (ten_pos _))) (by omega) (by omega)
   have c25:∀ W,CE 165 #[.int .i64 (3*((fD n).j:Int)+1)] W (NT 2001 (10^(3*(fD n).j+1))):=fun W=>by
    have:=drten_v (3*(fD n).j+1) W (by omega)
    rw [show ((3*(fD n).j+1:Nat):Int)=3*((fD n).j:Int)+1 by omega] at this
    exact this
   have c25b:∀ W,CE 165 #[.int .i64 (3*((fD n).j:Int)+1-1)] W (NT 2001 (10^(3*(fD n).j))):=fun W=>by
    have:=drten_v (3*(fD n).j) W (by omega)
    rw [show ((3*(fD n).j:Nat):Int)=3*((fD n).j:Int)+1-1 by omega] at this
    exact this
   have c24:∀ W v u,Nz 2003 C v W->NT 2001 (10^(3*(fD n).j+1)) u W->CB 164 #[v,u] W (.int .i64 (sgn (C:Int) ((10^(3*(fD n).j+1):Nat):Int))):=fun W v u hv hu=>ncmp_v (by decide) (by decide) hv.nt hu.nt
   have hcm:(sgn (C:Int) ((10^(3*(fD n).j+1):Nat):Int) == 0)=decide (10^(3*(fD n).j+1)<=C):=by
    rcases sgn_ways (C:Int) ((10^(3*(fD n).j+1):Nat):Int) with ⟨a,e⟩ | ⟨a,e⟩ | ⟨a,e⟩
    ·rw [e,decide_eq_false (by omega)];rfl
    ·rw [e,decide_eq_true (by omega)];rfl
    ·exact absurd a (by omega)
   have c26:∀ W,CB 166 #[IDec n (nameN n) (widthN n) (3*((fD n).j:Int)+1) (expN n) (fD n).l (fD n).m (payN n) (denseN n),.int .i64 d,.bool s] W ((if inB d s then (⟨2,s,false,0,0⟩:Dat) else ⟨1,s,false,(fD n).m,10^(3*(fD n).j+1)-1⟩).v):=fun W=>by
    by_cases hi:inB d s=true
    ·rw [if_pos hi]
     have:=dover_i n (nameN n) (widthN n) (3*((fD n).j:Int)+1) (expN n) (fD n).l (fD n).m (payN n) (denseN n) d s W hi
     unfold Dat.v DV
     simp only [W4_zero]
     exact this
    ·rw [if_neg hi]
     exact dover_l n (nameN n) (widthN n) (3*((fD n).j:Int)+1) (expN n) (fD n).l (fD n).m (payN n) (denseN n) d s W (by simpa using hi) _ (10^(3*(fD n).j+1)-1) _ _ _ _ _ _ _ _ c25 (fun W v u hv hu=>nsub_vd (by decide) (by decide) hv hu (ten_pos _)) (fun W v hv=>dfin_v (C:=10^(3*(fD n).j+1)-1) s (fD n).m hv (by omega))
   have hN0:(((bl N:Nat):Int) == 0)=false:=by rw [bl_nought];exact decide_eq_false hN
   have hfl:∀ ex:Bool,∀ W,CQ 168 #[.bool ex,.bool (decide (L+X<3*((fD n).j:Int)+1-1+(fD n).l))] W (.int .i64 (if ex then 0 else if L+X<(fD n).l+3*(fD n).j then 12 else 8)):=fun ex W=>by
    have:=raised_any ex (decide (L+X<3*((fD n).j:Int)+1-1+(fD n).l)) W
    have e:(L+X<3*((fD n).j:Int)+1-1+(fD n).l)↔(L+X<(fD n).l+3*(fD n).j):=by omega
    simp only [decide_eq_true_eq,e] at this
    simpa only [e] using this
   generalize hxa:decide (N*10^(X-q0).toNat%(D*10^(-(X-q0)).toNat)=0)=exa at *
   have hfx:=hfl exa
   clear hfl hxa hC0
   by_cases hu:10^(3*(fD n).j+1)<=C
   ·rw [if_pos hu] at hEq hCq
    subst hEq hCq
    rw [decide_eq_true hu] at hcm
    by_cases ho:(fD n).m<q0+1
    ·rw [if_pos ho,if_pos ho]
     exact ddec_uo n d x y s vn vd w _ _ _ _ _ _ _ _ N _ _ _ _ _ _ _ _ c17 c18 (by omega) (by omega) (by omega) hN0 L X q0 (by omega) (by omega) hqq (by omega) C _ _ _ c20 c21 c22 c25 c24 hcm _ c25b ho c26
    ·rw [if_neg ho,if_neg ho]
     cases exa
     ·exact ddec_ui n d x y s vn vd w _ _ _ _ _ _ _ _ N _ _ _ _ _ _ _ _ c17 c18 (by omega) (by omega) (by omega) hN0 L X q0 (by omega) (by omega) hqq (by omega) C _ _ _ c20 c21 c22 c25 c24 hcm _ c25b ho rfl _ (fun W v hv=>dfin_v (C:=10^(3*(fD n).j)) s (q0+1) hv (by omega)) hfx
     ·obtain ⟨k1,k2,k3,k4⟩:=mbr_all (want:=y) ((fD n).m-(q0+1)).toNat (10^(3*(fD n).j)) (q0+1) (show q0+1<=(fD n).m by omega)
      exact ddec_ux n d x y s vn vd w _ _ _ _ _ _ _ _ N _ _ _ _ _ _ _ _ c17 c18 (by omega) (by omega) (by omega) hN0 L X q0 (by omega) (by omega) hqq (by omega) C _ _ _ c20 c21 c22 c25 c24 hcm _ c25b ho rfl _ _ _ rfl (fun W v hv=>dmember_v (fD n).m y (by omega) (by omega) hv (by omega)) (fun W v hv=>dfin_v (C:=(mbr (fD n).m y ((fD n).m-(q0+1)).toNat (10^(3*(fD n).j)) (q0+1)).1) s _ hv (by omega)) hfx
   ·rw [if_neg hu] at hEq hCq
    subst hEq hCq
    rw [decide_eq_false hu] at hcm
    by_cases ho:(fD n).m<q0
    ·rw [if_pos ho,if_pos ho]
     exact ddec_no n d x y s vn vd w _ _ _ _ _ _ _ _ N _ _ _ _ _ _ _ _ c17 c18 (by omega) (by omega) (by omega) hN0 L X q0 (by omega) (by omega) hqq (by omega) C _ _ _ c20 c21 c22 c25 c24 hcm ho c26
    ·rw [if_neg ho,if_neg ho]
     cases exa
     ·exact ddec_ni n d x y s vn vd w _ _ _ _ _ _ _ _ N _ _ _ _ _ _ _ _ c17 c18 (by omega) (by omega) (by omega) hN0 L X q0 (by omega) (by omega) hqq (by omega) C _ _ _ c20 c21 c22 c25 c24 hcm ho rfl _ (fun W v hv=>dfin_v (C:=C) s q0 hv (by omega)) hfx
     ·obtain ⟨k1,k2,k3,k4⟩:=mbr_all (want:=y) ((fD n).m-q0).toNat C q0 (show q0<=(fD n).m by omega)
      exact ddec_nx n d x y s vn vd w _ _ _ _ _ _ _ _ N _ _ _ _ _ _ _ _ c17 c18 (by omega) (by omega) (by omega) hN0 L X q0 (by omega) (by omega) hqq (by omega) C _ _ _ c20 c21 c22 c25 c24 hcm ho rfl _ _ _ rfl (fun W v hv=>dmember_v (fD n).m y (by omega) (by omega) hv (by omega)) (fun W v hv=>dfin_v (C:=(mbr (fD n).m y ((fD n).m-q0).toNat C q0).1) s _ hv (by omega)) hfx
 ·obtain ⟨q1,q2⟩:=rq_not (s:=s) (x:=x) (y:=y) hE
  rw [q1,q2]
  exact ddec_e n d x y s vn vd w _ (by simpa using hE) (fun W hb=>dchk_bad (hT.go hb) (hn.next hb) (hd.next hb) hE)
theorem drk_v {n d x:Int} {s:Bool} {N:Nat} {vn:Value} {w:World} (hT:Tab w) (hn:Nt 2001 N vn w) :
  CB 81 #[.int .i64 n,.int .i64 d,.bool s,vn,.int .i64 x] w (.tuple #[(rqD n d s N 1 x x).v,.int .i64 (rqF n d s N 1 x),.int .i64 (rqE n d N 1)]) :=
 dkeep_w n d x s vn w _ _ _ _ _ _ _ _ _ _ fun W v hb hv=>drd_v (hT.go hb) (hn.next hb) (hv.more (by decide))
end
theorem rq_keep {n d:Int} {v:Dat} (h:decN n) (hd:knB d) (hv:vI (fD n) v) (hc:v.c=1) :
  rqE n d v.k 1=0/\rqD n d v.s v.k 1 v.x v.x=v/\rqF n d v.s v.k 1 v.x=0:=by
 obtain ⟨m0,m1,l0,l1,lm,j0,j1⟩:=ok_m (fD_ok n)
 obtain ⟨c,s,g,x,k⟩:=v
 simp only at hc ⊢
 subst hc
 have hv':g=false/\k<10^(3*(fD n).j+1)/\(fD n).l<=x/\x<=(fD n).m:=by
  rcases hv with ⟨_,a,b,c,e⟩ | ⟨a,_⟩ | ⟨a,_⟩
  ·exact ⟨a,b,c,e⟩
  ·exact absurd (show (1:Int)=2 from a) (by decide)
  ·exact absurd (show (1:Int)=3 from a) (by decide)
 obtain ⟨rfl,hk,hx0,hx1⟩:=hv'
 have b1:bl 1<=2:=bl_le.2 (by decide)
 have bk:bl k<=200:=bl_le.2 (Nat.lt_of_lt_of_le hk (Nat.le_trans (Nat.pow_le_pow_right (by decide) (show 3*(fD n).j+1<=34 by omega)) (by decide)))
 have e0:rqE n d k 1=0:=by
  unfold rqE
  rw [if_pos ⟨h,hd,by decide⟩,if_neg (by omega)]
 refine ⟨e0,?_⟩
 unfold rqD rqF
 rw [if_pos e0,if_pos e0]
 by_cases hk0:k=0
 ·rw [if_pos hk0,if_pos hk0]
  subst hk0
  rw [show min (max x (fD n).l) (fD n).m=x by omega]
  exact ⟨rfl,rfl⟩
 ·rw [if_neg hk0,if_neg hk0,show clT x=x by unfold clT;omega,Nat.one_mul]
  have hp:=Nat.pos_of_ne_zero hk0
  exact dk_keep (fD_ok n) d s hp hk hx0 hx1 (tnX_is (Nat.mul_pos hp (ten_pos _)) (ten_pos _))
theorem zero_cut (s:Bool) {e:Int} (he:-100000<=e/\e<=100000):cutP (sgL s++unT [48] e)=some ⟨1,s,false,[],e⟩:=by
 have hlen:(unT [48] e).length<=26:=by have:=unT_brief (D:=[48]) he;rw [List.length_cons,List.length_nil] at this;omega
 obtain ⟨x1,x2,x3,x4,x5⟩:=ex_any e (by omega)
 have hu:unT [48] e=[48]++(101 :: Lib.itoa e):=rfl
 have key:finB (unT [48] e)=true/\finD (unT [48] e)=[]/\finE (unT [48] e)=e/\∃ t,unT [48] e=48 :: t:=by
  rw [hu]
  obtain ⟨d1,d2⟩:=dgs_app2 (l:=[48]) (m:=101 :: Lib.itoa e) (by decide) x4
  have f1:frac ([48]++101 :: Lib.itoa e)=[]:=by unfold frac;rw [d2,x3];rfl
  have f2:behind ([48]++101 :: Lib.itoa e)=101 :: Lib.itoa e:=by unfold behind;rw [d2,x3];rfl
  refine ⟨?_,?_,?_,_,rfl⟩
  ·unfold finB;rw [f1,f2,x1,d1];rfl
  ·unfold finD;rw [f1,d1];rfl
  ·unfold finE;rw [f1,f2,x2]
   rw [show e-((([]:List UInt8).length:Nat):Int)=e by simp]
   exact clamp_id (by omega)
 obtain ⟨k1,k2,k3,t,k4⟩:=key
 unfold cutP
 have hs:(sgL s++unT [48] e).length<=4000:=by
  rw [List.length_append]
  have:(sgL s).length<=1:=by cases s <;> decide
  omega
 rw [if_neg (by omega)]
 have hsg:gsgB (sgL s++unT [48] e)=s/\sgR (sgL s++unT [48] e)=unT [48] e:=by
  rw [k4]
  exact sig_app s 48 t ⟨by decide,by decide⟩
 rw [hsg.1,hsg.2]
 unfold bodP
 rw [if_pos k1,k2,k3]
def wtD (k:Nat):List UInt8:=if k=0 then [48] else dcL k
def xtT (v:Dat):List UInt8:=if v.c=1 then sgL v.s++unT (wtD v.k) (v.x+(wtD v.k).length-1) else texT v.c v.s v.g (dcL v.k) 0
def xtP (v:Dat):Prt:=⟨v.c,v.s,v.g,dcL v.k,if v.c=1 then v.x else 0⟩
theorem dcL_ne {k:Nat} (h0:k≠0) (hk:k<2^256):dcL k≠[]:=by
 obtain ⟨f1,f2,f3⟩:=dcL_facts hk
 intro e
 rw [e,dV_nil] at f2
 exact h0 f2.symm
theorem vI_k {f:DF} (hf:f.ok) {v:Dat} (h:vI f v):v.k<2^256:=by
 obtain ⟨m0,m1,l0,l1,lm,j0,j1⟩:=ok_m hf
 have h1:(10:Nat)^(3*f.j+1)<=10^34:=Nat.pow_le_pow_right (by decide) (by omega)
 have h2:(10:Nat)^(3*f.j)<=10^34:=Nat.pow_le_pow_right (by decide) (by omega)
 have h3:(10:Nat)^34<2^256:=by decide
 rcases h with ⟨_,_,a,_⟩ | ⟨_,_,a,_⟩ | ⟨_,_,a⟩
 ·omega
 ·rw [a];decide
 ·omega
theorem xt_cut {f:DF} (hf:f.ok) {v:Dat} (h:vI f v):cutP (xtT v)=some (xtP v)/\(xtT v).length<=3001:=by
 obtain ⟨m0,m1,l0,l1,lm,j0,j1⟩:=ok_m hf
 have hk:=vI_k hf h
 obtain ⟨f1,f2,f3⟩:=dcL_facts hk
 obtain ⟨c,s,g,x,k⟩:=v
 unfold xtT xtP
 dsimp only at *
 rcases h with ⟨h1,h2,h3,h4,h5⟩ | ⟨h1,h2,h3,h4⟩ | ⟨h1,h2,h3⟩
 ·dsimp only at h1 h2 h3 h4 h5
  subst h1 h2
  have hx:-10000<=x/\x<=10000:=by unfold DF.m at *;omega
  rw [if_pos rfl,if_pos rfl]
  unfold wtD
  by_cases h0:k=0
  ·rw [if_pos h0,h0,show dcL 0=[] by kernel_rfl,show x+((([48]:List UInt8).length:Nat):Int)-1=x by simp]
   refine ⟨zero_cut s (by omega),?_⟩
   have hlen:(unT [48] x).length<=26:=by have:=unT_brief (D:=[48]) (e:=x) (by omega);rw [List.length_cons,List.length_nil] at this;omega
   rw [List.length_append]
   have:(sgL s).length<=1:=by cases s <;> decide
   omega
  ·rw [if_neg h0]
   refine ⟨dec_cut s f1 (dcL_ne h0 hk) (by omega) (by omega) rfl,?_⟩
   have hlen:=unT_brief (D:=dcL k) (e:=x+(dcL k).length-1) (by omega)
   rw [List.length_append]
   have:(sgL s).length<=1:=by cases s <;> decide
   omega
 ·dsimp only at h1 h2 h3 h4
  subst h1 h2 h3 h4
  have e0:dcL 0=[]:=by kernel_rfl
  rw [e0]
  exact ⟨by cases s <;> kernel_rfl,by cases s <;> decide⟩
 ·dsimp only at h1 h2 h3
  subst h1 h2
  have hlen:(texT 3 s g (dcL k) 0).length<=3001:=by
   have:=tex_len2 (c:=3) (s:=s) (g:=g) (d:=dcL k) (e:=0) (by decide)
   omega
  have hj:=(jn_of_gd (p:=⟨3,s,g,dcL k,0⟩) ⟨f1,Or.inr (Or.inr ⟨rfl,rfl,by show (texT 3 s g (dcL k) 0).length<=4000;omega⟩)⟩).2
  exact ⟨hj,hlen⟩
noncomputable def dmD (n d:Int) (p:Prt):Dat :=
 if p.cls=1 then rqD n d p.sg (dV p.dig) 1 p.ex p.ex else ⟨p.cls,p.sg,p.sn,0,if p.cls=3 then (if 10^(3*(fD n).j)<=dV p.dig then 0 else dV p.dig) else 0⟩
noncomputable def dmF (n d:Int) (p:Prt):Int:=if p.cls=1 then rqF n d p.sg (dV p.dig) 1 p.ex else 0
theorem dm_back {n d:Int} (hn:decN n) (hd:knB d) {v:Dat} (h:vI (fD n) v):dmD n d (xtP v)=v/\dmF n d (xtP v)=0:=by
 have hk:=vI_k (fD_ok n) h
 obtain ⟨f1,f2,f3⟩:=dcL_facts hk
 by_cases hc:v.c=1
 ·obtain ⟨r1,r2,r3⟩:=rq_keep hn hd h hc
  unfold dmD dmF xtP
  dsimp only
  rw [if_pos hc,if_pos hc,if_pos hc,f2]
  exact ⟨r2,r3⟩
 ·unfold dmD dmF xtP
  dsimp only
  rw [if_neg hc,if_neg hc,if_neg hc,f2]
  refine ⟨?_,rfl⟩
  obtain ⟨c,s,g,x,k⟩:=v
  dsimp only at *
  rcases h with ⟨h1,_⟩ | ⟨h1,h2,h3,h4⟩ | ⟨h1,h2,h3⟩
  ·exact absurd h1 hc
  ·dsimp only at h1 h2 h3 h4
   subst h1 h2 h3 h4
   rfl
  ·dsimp only at h1 h2 h3
   subst h1 h2
   rw [if_pos rfl,if_neg (by omega)]
theorem dm_is {n d:Int} (hn:decN n) (hd:knB d) {p:Prt} (hg:gdP p) (hb:bl (dV p.dig)<=25600):vI (fD n) (dmD n d p):=by
 obtain ⟨m0,m1,l0,l1,lm,j0,j1⟩:=ok_m (fD_ok n)
 obtain ⟨_,hp⟩:=hg
 unfold dmD
 rcases hp with ⟨h1,_⟩ | ⟨h1,h2,h3,h4⟩ | ⟨h1,h2,h3⟩
 ·rw [if_pos h1]
  have hE:rqE n d (dV p.dig) 1=0:=by
   unfold rqE
   rw [if_pos ⟨hn,hd,by decide⟩,if_neg]
   have:bl 1<=1:=bl_le.2 (by decide)
   omega
  unfold rqD
  rw [if_pos hE]
  by_cases h0:dV p.dig=0
  ·rw [if_pos h0]
   exact Or.inl ⟨rfl,rfl,ten_pos _,by show (fD n).l<=min (max p.ex (fD n).l) (fD n).m;omega,by show min (max p.ex (fD n).l) (fD n).m<=(fD n).m;omega⟩
  ·rw [if_neg h0]
   have hp:0<1*10^(-(clT p.ex)).toNat:=Nat.mul_pos (by decide) (ten_pos _)
   exact dkD_is (fD_ok n) hp (tnX_is (Nat.mul_pos (by omega) (ten_pos _)) hp)
 ·rw [if_neg (by rw [h1];decide)]
  exact Or.inr (Or.inl ⟨h1,h2,by show (if p.cls=3 then _ else 0)=0;rw [if_neg (by rw [h1];decide)],rfl⟩)
 ·rw [if_neg (by rw [h1];decide)]
  refine Or.inr (Or.inr ⟨h1,rfl,?_⟩)
  show (if p.cls=3 then _ else 0)<_
  rw [if_pos h1]
  split
  ·exact ten_pos _
  ·omega
section
abbrev zd:Array Value:=#[.int .i64 0,.bool false,.bool false,.int .i64 0,.int .u64 0,.int .u64 0,.int .u64 0,.int .u64 0]
abbrev dvc (c:Int) (s g:Bool) (x:Int) (k:Nat):Array Value:=#[.int .i64 c,.bool s,.bool g,.int .i64 x,.int .u64 (W4 k 0),.int .u64 (W4 k 1),.int .u64 (W4 k 2),.int .u64 (W4 k 3)]
theorem below_cellsD {n b:Nat} {a:World} (hb:n<=b):∀ (vs:List Value) (o:Nat) (W:World),Below n a W->Below n a (W.setCells b o vs)
 | [],_,_,h=>h
 | v :: r,o,W,h=>below_cellsD hb r (o+1) _ (h.setCell hb v)
def D8 (g:Nat) (cs:Array Value) (w:World):Prop:=g<w.heap.size/\cs.size=8/\(∀ i,i<8->w.cell? ⟨g,i,none⟩=cs[i]?)/\∀ i,w.frozen? ⟨g,i,none⟩=false
theorem D8.next {g:Nat} {cs:Array Value} {w w':World} (h:D8 g cs w) (hb:Below w.heap.size w w'):D8 g cs w' :=
 ⟨Nat.lt_of_lt_of_le h.1 hb.size,h.2.1,fun i hi=>(hb.cell (p:=⟨g,i,none⟩) h.1).trans (h.2.2.1 i hi),fun i=>(hb.frozen (p:=⟨g,i,none⟩) h.1).trans (h.2.2.2 i)⟩
theorem D8.new (w:World):D8 w.heap.size zd (w.alloc (.cells zd 50)):=by
 refine ⟨by simp,rfl,fun i hi=>?_,fun i=>?_⟩
 ·rw [World.cell?_alloc_new]
 ·simp [go_sem]
theorem D8.put {g:Nat} {cs cs':Array Value} {w:World} (h:D8 g cs w) (hs:cs'.size=8):D8 g cs' (w.setCells g 0 cs'.toList):=by
 have hin:=World.cell?_setCells_in g cs'.toList 0 w (fun j hj=>by
  rw [Nat.zero_add,h.2.2.1 j (by simpa [hs] using hj),Array.getElem?_eq_getElem (by rw [h.2.1];simpa [hs] using hj)];rfl)
 refine ⟨Nat.lt_of_lt_of_le h.1 (below_cellsD (n:=0) (Nat.zero_le _) _ _ _ (Below.refl 0 w)).size,hs,fun i hi=>?_,fun i=>?_⟩
 ·have:=hin i (by simpa [hs] using hi)
  rw [Nat.zero_add] at this
  rw [this,Array.getElem?_eq_getElem (by rw [hs];exact hi)]
  simp
 ·rw [World.frozen?_setCells];exact h.2.2.2 i
attribute [local irreducible] W4 Nt NT
section
variable {a:Act} {w:World} {K:Act->World->Prop} {Q:Exit->Act->World->Prop} {d p q:Nat} {ty:TypeId} {pos:String} {after:Array Edge} {gd:Option (Nat×Bool)}
theorem od_ld4 {g i:Nat} {v:Value} (h1:slot a p=.pointer (some ⟨g,i,none⟩)) (h2:w.cell? ⟨g,i,none⟩=some v) (hK:K (a.put (some d) v) w):Oper.wp Tryz.prog { dst:=some d,op:=Op.load 4 (Operand.tmp p),type:=ty,pos:=pos,after:=after,guard:=gd } a w K Q:=by
 unfold slot at h1
 simp [go_sem,h1,h2]
 exact hK
theorem od_alc (hK:K (a.put (some d) (.pointer (some ⟨w.heap.size,0,none⟩))) (w.alloc (.cells zd 50))):Oper.wp Tryz.prog { dst:=some d,op:=Op.alloc 50,type:=ty,pos:=pos,after:=after,guard:=gd } a w K Q:=by
 simp [go_sem]
 exact hK
theorem od_st {g:Nat} {c x:Int} {s b:Bool} {k:Nat} {cs:Array Value} (h1:slot a p=.pointer (some ⟨g,0,none⟩)) (h2:slot a q=DV c s b x k) (hB:D8 g cs w) (hK:K (a.put none undef) (w.setCells g 0 (dvc c s b x k).toList)):Oper.wp Tryz.prog { dst:=none,op:=Op.store 50 (Operand.tmp p) (Operand.tmp q),type:=ty,pos:=pos,after:=after,guard:=gd } a w K Q:=by
 refine wp_store_mid 50 (.tmp p) (.tmp q) rfl g 0 (dvc c s b x k) (by unfold slot at h1;simp [go_sem,h1]) (by unfold slot at h2;simp [go_sem,h2]) (fun j hj=>?_) (by kernel_rfl) (by simp [Value.oneCell']) hK
 rw [Nat.zero_add,hB.2.2.1 j hj,Array.getElem?_eq_getElem (by rw [hB.2.1];exact hj)]
 exact ⟨rfl,hB.2.2.2 j⟩
end
def M7 (ws:World) (cv:Array Value) (L:Nat->Prop) (f:Nat->Value) (w:World):Prop :=
 Below ws.heap.size ws w/\(L 6->L 10∨Nt 1 1 (f 61) w)/\(L 15->∃ g cs,f 14=.pointer (some ⟨g,0,none⟩)/\ws.heap.size<=g/\D8 g cs w/\(L 16->cs=cv))
theorem M7.step {ws w:World} {cv:Array Value} {k t:Nat} {L:Nat->Prop} {f:Nat->Value} {v:Value} (h:M7 ws cv L f w) (h1:t≠61) (h2:t≠14) (h3:k≠6) (h4:k≠15) (h5:k≠16) (h6:k≠10):M7 ws cv (fun j=>L j∨j=k) (fun u=>if some t=some u then v else f u) w:=by
 obtain ⟨a1,a2,a3⟩:=h
 have e61:(if some t=some 61 then v else f 61)=f 61:=if_neg (fun e=>h1 (Option.some.inj e))
 have e14:(if some t=some 14 then v else f 14)=f 14:=if_neg (fun e=>h2 (Option.some.inj e))
 refine ⟨a1,fun h=>?_,fun h=>?_⟩
 ·rcases a2 (h.resolve_right (fun e=>h3 e.symm)) with q | q
  ·exact Or.inl (Or.inl q)
  ·right;show Nt 1 1 (if some t=some 61 then v else f 61) w;rw [e61];exact q
 ·obtain ⟨g,cs,b1,b2,b3,b4⟩:=a3 (h.resolve_right (fun e=>h4 e.symm))
  exact ⟨g,cs,e14.trans b1,b2,b3,fun h=>b4 (h.resolve_right (fun e=>h5 e.symm))⟩
end
section
attribute [local irreducible] W4 Nt NT
section
variable {a:Act} {w:World} {K:Act->World->Prop} {Q:Exit->Act->World->Prop} {d p q:Nat} {ty:TypeId} {pos:String} {after:Array Edge} {gd:Option (Nat×Bool)}
end
def K10 (ws:World) (gd N:Nat) (c0 cv:Array Value) (L:Nat->Prop) (f:Nat->Value) (w:World):Prop :=
 (L 6->L 12∨NT 1001 N (f 52) w)/\(L 7->L 12∨NT 1 1 (f 53) w)/\(¬ L 16->Below ws.heap.size ws w/\D8 gd c0 w)/\(L 16->∃ w0,Below ws.heap.size ws w0/\w=w0.setCells gd 0 cv.toList)
theorem K10.step {ws w:World} {gd N:Nat} {c0 cv:Array Value} {k t:Nat} {L:Nat->Prop} {f:Nat->Value} {v:Value} (h:K10 ws gd N c0 cv L f w) (n16:¬ L 16) (h1:t≠52) (h2:t≠53) (h3:k≠6) (h4:k≠7) (h5:k≠16) (h6:k≠12):K10 ws gd N c0 cv (fun j=>L j∨j=k) (fun u=>if some t=some u then v else f u) w:=by
 obtain ⟨a1,a2,a3,a4⟩:=h
 have e52:(if some t=some 52 then v else f 52)=f 52:=if_neg (fun e=>h1 (Option.some.inj e))
 have e53:(if some t=some 53 then v else f 53)=f 53:=if_neg (fun e=>h2 (Option.some.inj e))
 refine ⟨fun h=>?_,fun h=>?_,fun _=>a3 n16,fun h=>absurd (h.resolve_right (fun e=>h5 e.symm)) n16⟩
 ·rcases a1 (h.resolve_right (fun e=>h3 e.symm)) with q | q
  ·exact Or.inl (Or.inl q)
  ·right;show NT 1001 N (if some t=some 52 then v else f 52) w;rw [e52];exact q
 ·rcases a2 (h.resolve_right (fun e=>h4 e.symm)) with q | q
  ·exact Or.inl (Or.inl q)
  ·right;show NT 1 1 (if some t=some 53 then v else f 53) w;rw [e53];exact q
end
noncomputable def kmE (n d:Int) (p:Prt):Int:=open Classical in if decN n/\knB d then (if gdP p then 0 else 2) else 1
noncomputable def kmV (n d:Int) (p:Prt):Nat:=if kmE n d p=0 then vPV n (dmD n d p) else 0
noncomputable def kmF (n d:Int) (p:Prt):Int:=if kmE n d p=0 then dmF n d p else 0
theorem gd_dig {p:Prt} (h:gdP p):p.dig.all dg=true/\p.dig.length<=4000:=by
 refine ⟨gdD_all h.1,(jn_of_gd h).1⟩
theorem dig_bl {l:List UInt8} (h:l.all dg=true) (hl:l.length<=4000):bl (dV l)<=16001:=by
 have h1:=(dV_lt h).1
 have h2:=ten_bl l.length
 have h3:=bl_le.1 h2
 have h4:bl (dV l)<=4*l.length+1:=bl_le.2 (Nat.lt_trans h1 h3)
 omega
section
attribute [local irreducible] W4
section
variable (n d:Int) (nm:ByteArray) (wd P ex l m pa b:Int) (dn:Bool) (w:World) (hT:Tab w)
include hT
theorem dck_e (i0 E:Int) (hE:(E != 0)=true)
  (c52:∀ W,Tab W->CB 70 #[.int .i64 n] W (.tuple #[.agg #[.int .i64 i0,.string nm,.int .i64 b,.int .i64 wd,.int .i64 P,.int .i64 ex,.int .i64 l,.int .i64 m,.int .i64 pa,.bool dn],.int .i64 E])) :
  CB 34 #[.int .i64 n,.int .i64 d] w (.tuple #[IZ,.int .i64 1]):=by
 have hsm:=cell_set_map
 go_enter Tryz.func34,Tryz.ntmps34
 go_wp2_with (first
  | (go_at_call 70;refine (c52 _ (hT.go bgo)).mono ?_;rintro r w1 ⟨rfl,hb1⟩;obtain ⟨_,_,_,_,hA1,_⟩:=wz w hb1;clear hb1))
 exact bodyPost_ret (v:=.tuple #[IZ,.int .i64 1]) (by simp only [results,Tryz.results34];go_simp) rfl ⟨rfl,bgo⟩
theorem dck_b (i0:Int) (hE:(b != 10)=true)
  (c52:∀ W,Tab W->CB 70 #[.int .i64 n] W (.tuple #[.agg #[.int .i64 i0,.string nm,.int .i64 b,.int .i64 wd,.int .i64 P,.int .i64 ex,.int .i64 l,.int .i64 m,.int .i64 pa,.bool dn],.int .i64 0])) :
  CB 34 #[.int .i64 n,.int .i64 d] w (.tuple #[IZ,.int .i64 1]):=by
 have hsm:=cell_set_map
 go_enter Tryz.func34,Tryz.ntmps34
 go_wp2_with (first
  | (go_at_call 70;refine (c52 _ (hT.go bgo)).mono ?_;rintro r w1 ⟨rfl,hb1⟩;obtain ⟨_,_,_,_,hA1,_⟩:=wz w hb1;clear hb1))
 exact bodyPost_ret (v:=.tuple #[IZ,.int .i64 1]) (by simp only [results,Tryz.results34];go_simp) rfl ⟨rfl,bgo⟩
variable (c52:∀ W,Tab W->CB 70 #[.int .i64 n] W (.tuple #[IDec n nm wd P ex l m pa dn,.int .i64 0]))
include c52
theorem dck_d (hd:decide (knB d)=false) :
  CB 34 #[.int .i64 n,.int .i64 d] w (.tuple #[IZ,.int .i64 1]):=by
 have hsm:=cell_set_map
 have c53:=known_any d
 rw [hd] at c53
 go_enter Tryz.func34,Tryz.ntmps34
 go_wp2_with (first
  | (go_at_call 70;refine (c52 _ (hT.go bgo)).mono ?_;rintro r w1 ⟨rfl,hb1⟩;obtain ⟨_,_,_,_,hA1,_⟩:=wz w hb1;clear hb1)
  | (go_at_call 71;refine (c53 _).mono ?_;rintro r w2 ⟨rfl,rfl⟩))
 exact bodyPost_ret (v:=.tuple #[IZ,.int .i64 1]) (by simp only [results,Tryz.results34];go_simp) rfl ⟨rfl,bgo⟩
theorem dck_k (hd:decide (knB d)=true) :
  CB 34 #[.int .i64 n,.int .i64 d] w (.tuple #[IDec n nm wd P ex l m pa dn,.int .i64 0]):=by
 have hsm:=cell_set_map
 have c53:=known_any d
 rw [hd] at c53
 go_enter Tryz.func34,Tryz.ntmps34
 go_wp2_with (first
  | (go_at_call 70;refine (c52 _ (hT.go bgo)).mono ?_;rintro r w1 ⟨rfl,hb1⟩;obtain ⟨_,_,_,_,hA1,_⟩:=wz w hb1;clear hb1)
  | (go_at_call 71;refine (c53 _).mono ?_;rintro r w2 ⟨rfl,rfl⟩))
 exact bodyPost_ret (v:=.tuple #[IDec n nm wd P ex l m pa dn,.int .i64 0]) (by simp only [results,Tryz.results34];go_simp) rfl ⟨rfl,bgo⟩
end
theorem dck_bad {n d:Int} {w:World} (hT:Tab w) (h:¬ (decN n/\knB d)):CB 34 #[.int .i64 n,.int .i64 d] w (.tuple #[IZ,.int .i64 1]):=by
 by_cases h1:decN n
 ·exact dck_d n d _ _ _ _ _ _ _ _ w hT (fun W hT'=>dof_dec h1 W hT') (decide_eq_false fun h2=>h ⟨h1,h2⟩)
 ·by_cases hok:okN n
  ·refine dck_b n d (nameN n) (widthN n) (precN n) (expN n) (leastN n) (mostN n) (payN n) (baseN n) (denseN n) w hT (numN n) (not_decE hok h1) (fun W hT'=>?_)
   have c:=ofv_any n W hT'
   rw [show infoE n=0 from if_pos hok] at c
   exact c
  ·refine dck_e n d (nameN n) (widthN n) (precN n) (expN n) (leastN n) (mostN n) (payN n) (baseN n) (denseN n) w hT (numN n) 1 (by decide) (fun W hT'=>?_)
   have c:=ofv_any n W hT'
   rw [show infoE n=1 from if_neg hok] at c
   exact c
theorem dck_good {n d:Int} {w:World} (hT:Tab w) (h1:decN n) (h2:knB d):CB 34 #[.int .i64 n,.int .i64 d] w (.tuple #[IDec n (nameN n) (widthN n) (3*((fD n).j:Int)+1) (expN n) (fD n).l (fD n).m (3*((fD n).j:Int)) (denseN n),.int .i64 0]):=by
 obtain ⟨hok,q1,q2,q3,q4,q5,q6,q7,q8⟩:=dec_fields h1
 have c:=dck_k n d _ _ _ _ _ _ _ _ w hT (fun W hT'=>dof_dec h1 W hT') (decide_eq_true h2)
 rw [q7] at c
 exact c
theorem natural16 (l:List UInt8) (w:World) (hd:l.all dg=true) (hl:l.length<=4000):CE 82 #[.string (B l)] w (Nz 251 (dV l)):=by
 have h48:(48 :: l).all dg=true:=by rw [List.all_cons,hd];rfl
 have c100:=nread_ok (B (48 :: l)) w (by unfold isDigB;rw [dig_B h48];simp [B_size]) (by rw [B_size,List.length_cons];omega)
 rw [num_zero] at c100
 obtain ⟨hlt,he⟩:=dV_lt hd
 rw [← he] at c100
 have hbl:bl (dV l)<=64*251:=bl_10 hlt (by omega)
 have eB:(⟨#[48]⟩:ByteArray)++B l=B (48 :: l):=B_app [48] l
 have hsz:(B l).size<=4000:=by rw [B_size];exact hl
 have hs2:((B (48 :: l)).size:Int)<=9223372036854775807:=by rw [B_size,List.length_cons];omega
 generalize dV l=A at *
 rw [← eB] at c100 hs2
 clear hd h48 hlt he eB
 go_enter Tryz.func82,Tryz.ntmps82
 go_wp2_with (go_at_call 127;refine c100.mono ?_;rintro e w1 ⟨o,k,cap,z,rfl,hk,hN,hv,hs,hB⟩)
 go_ret
 exact ⟨_,rfl,nz_of hN hv hs hbl,hB⟩
attribute [local irreducible] Nz Nt
section
variable (c:Int) (s g:Bool) (x:Int) (k:Nat) (w:World) (T:List UInt8)
theorem dwd_0 (h0:k=0) (c31:∀ W,Below w.heap.size w W->CB 37 #[.agg #[.int .i64 c,.bool s,.bool g,.string ⟨#[]⟩,.int .i64 0]] W (.tuple #[.string (B T),.int .i64 0])) :
  CB 29 #[DV c s g x k] w (.string (B T)):=by
 subst h0
 have e1:=eq24 0 0 0 0 0 0 0 0
 rw [decide_eq_true ⟨rfl,rfl,rfl,rfl⟩] at e1
 have hsm:=cell_set_map
 unfold DV
 simp only [W4_zero]
 go_enter Tryz.func29,Tryz.ntmps29
 go_wp2_with (first
  | (go_at_call 37;refine (c31 _ bgo).mono ?_;rintro r w1 ⟨rfl,hb1⟩;obtain ⟨_,_,_,_,hA1,_⟩:=wz w hb1;clear hb1))
 exact bodyPost_ret (v:=.string (B T)) (by simp only [results,Tryz.results29];go_simp) rfl ⟨rfl,bgo⟩
theorem dwd_k (D:List UInt8) (hk:k<2^256) (h0:k≠0)
  (c20:∀ W v,Nt 4 k v W->CB 30 #[v] W (.tuple #[.string (B D),.int .i64 0]))
  (c31:∀ W,Below w.heap.size w W->CB 37 #[.agg #[.int .i64 c,.bool s,.bool g,.string (B D),.int .i64 0]] W (.tuple #[.string (B T),.int .i64 0])) :
  CB 29 #[DV c s g x k] w (.string (B T)):=by
 have e1:=eq24 (W4 k 0) (W4 k 1) (W4 k 2) (W4 k 3) 0 0 0 0
 rw [W4_none hk,decide_eq_false h0] at e1
 clear h0
 have hsm:=cell_set_map
 unfold DV
 go_enter Tryz.func29,Tryz.ntmps29
 go_wp2_with (first
  | (go_at_call 30;refine (c20 _ _ (nt_at hk (by first | (simp;done) | (simp;omega)) (by go_simp) (by go_simp) (by go_simp) (by go_simp))).mono ?_;rintro r w1 ⟨rfl,hb1⟩;obtain ⟨_,_,_,_,hA1,_⟩:=wz w hb1;obtain ⟨_,_⟩:=zf hb1 (w.heap.size+1);clear hb1)
  | (go_at_call 37;refine (c31 _ bgo).mono ?_;rintro r w2 ⟨rfl,hb2⟩;obtain ⟨_,_,_,_,hA2,_⟩:=wz w hb2;obtain ⟨_,_⟩:=zf hb2 (w.heap.size+1);clear hb2))
 exact bodyPost_ret (v:=.string (B T)) (by simp only [results,Tryz.results29];go_simp) rfl ⟨rfl,bgo⟩
end
end
section
attribute [local irreducible] W4 Nz Nt
section
variable (n d:Int) (c:Int) (s g:Bool) (l:List UInt8) (x:Int) (T:List UInt8) (nm:ByteArray) (wd P ex lo m pa:Int) (dn:Bool) (w:World) (hT:Tab w)
include hT
theorem dmk_e (E:Int) (hE:(E != 0)=true) (c28:∀ W,Tab W->CB 34 #[.int .i64 n,.int .i64 d] W (.tuple #[IZ,.int .i64 E])) :
  CB 13 #[.int .i64 n,.int .i64 d,PV c s g l x] w (.tuple #[Z4,.int .i64 0,.int .i64 E]):=by
 have hsm:=cell_set_map
 unfold PV at *
 go_enter Tryz.func13,Tryz.ntmps13
 go_wp2_with (go_at_call 34;refine (c28 _ (hT.go bgo)).mono ?_;rintro r w1 ⟨rfl,hb1⟩;obtain ⟨_,_,_,_,hA1,_⟩:=wz w hb1;obtain ⟨_,_⟩:=zf hb1 (w.heap.size+1);clear hb1)
 exact bodyPost_ret (v:=.tuple #[Z4,.int .i64 0,.int .i64 E]) (by simp only [results,Tryz.results13];go_simp) rfl ⟨rfl,bgo⟩
theorem drd_e (bs:ByteArray) (E:Int) (hE:(E != 0)=true) (c28:∀ W,Tab W->CB 34 #[.int .i64 n,.int .i64 d] W (.tuple #[IZ,.int .i64 E])) :
  CB 11 #[.int .i64 n,.int .i64 d,.string bs] w (.tuple #[Z4,.int .i64 0,.int .i64 E]):=by
 have hsm:=cell_set_map
 go_enter Tryz.func11,Tryz.ntmps11
 go_wp2_with (go_at_call 34;refine (c28 _ (hT.go bgo)).mono ?_;rintro r w1 ⟨rfl,hb1⟩;obtain ⟨_,_,_,_,hA1,_⟩:=wz w hb1;clear hb1)
 exact bodyPost_ret (v:=.tuple #[Z4,.int .i64 0,.int .i64 E]) (by simp only [results,Tryz.results11];go_simp) rfl ⟨rfl,bgo⟩
variable (c28:∀ W,Tab W->CB 34 #[.int .i64 n,.int .i64 d] W (.tuple #[IDec n nm wd P ex lo m pa dn,.int .i64 0]))
include c28
theorem dmk_j (E:Int) (hE:(E != 0)=true) (c31:∀ W,Below w.heap.size w W->CB 37 #[PV c s g l x] W (.tuple #[.string (B T),.int .i64 E])) :
  CB 13 #[.int .i64 n,.int .i64 d,PV c s g l x] w (.tuple #[Z4,.int .i64 0,.int .i64 2]):=by
 have hsm:=cell_set_map
 unfold PV at *
 go_enter Tryz.func13,Tryz.ntmps13
 go_wp2_with (first
  | (go_at_call 34;refine (c28 _ (hT.go bgo)).mono ?_;rintro r w1 ⟨rfl,hb1⟩;obtain ⟨_,_,_,_,hA1,_⟩:=wz w hb1;obtain ⟨_,_⟩:=zf hb1 (w.heap.size+1);clear hb1)
  | (go_at_call 37;refine (c31 _ bgo).mono ?_;rintro r w2 ⟨rfl,hb2⟩;obtain ⟨_,_,_,_,hA2,_⟩:=wz w hb2;obtain ⟨_,_⟩:=zf hb2 (w.heap.size+1);obtain ⟨_,_⟩:=zf hb2 w1.heap.size;clear hb2))
 exact bodyPost_ret (v:=.tuple #[Z4,.int .i64 0,.int .i64 2]) (by simp only [results,Tryz.results13];go_simp) rfl ⟨rfl,bgo⟩
theorem dmk_k (R:Nat) (F E:Int) (vc vx:Int) (vs vg:Bool) (V0 V1 V2 V3:Int) (c31:∀ W,Below w.heap.size w W->CB 37 #[PV c s g l x] W (.tuple #[.string (B T),.int .i64 0]))
  (c32:∀ W,Tab W->CB 38 #[IDec n nm wd P ex lo m pa dn,.int .i64 d,PV c s g l x] W (.tuple #[.agg #[.int .i64 vc,.bool vs,.bool vg,.int .i64 vx,.int .u64 V0,.int .u64 V1,.int .u64 V2,.int .u64 V3],.int .i64 F]))
  (c34:∀ W,Tab W->CB 39 #[.int .i64 n,.agg #[.int .i64 vc,.bool vs,.bool vg,.int .i64 vx,.int .u64 V0,.int .u64 V1,.int .u64 V2,.int .u64 V3]] W (.tuple #[A4 R,.int .i64 E])) :
  CB 13 #[.int .i64 n,.int .i64 d,PV c s g l x] w (.tuple #[A4 R,.int .i64 F,.int .i64 E]):=by
 have hsm:=cell_set_map
 unfold PV A4 at *
 go_enter Tryz.func13,Tryz.ntmps13
 go_wp2_with (first
  | (go_at_call 34;refine (c28 _ (hT.go bgo)).mono ?_;rintro r w1 ⟨rfl,hb1⟩;obtain ⟨_,_,_,_,hA1,_⟩:=wz w hb1;obtain ⟨_,_⟩:=zf hb1 (w.heap.size+1);clear hb1)
  | (go_at_call 37;refine (c31 _ bgo).mono ?_;rintro r w2 ⟨rfl,hb2⟩;obtain ⟨_,_,_,_,hA2,_⟩:=wz w hb2;obtain ⟨_,_⟩:=zf hb2 (w.heap.size+1);obtain ⟨_,_⟩:=zf hb2 w1.heap.size;clear hb2)
  | (go_at_call 38;refine (c32 _ (hT.go bgo)).mono ?_;rintro r w3 ⟨rfl,hb3⟩;obtain ⟨_,_,_,_,hA3,_⟩:=wz w hb3;obtain ⟨_,_⟩:=zf hb3 (w.heap.size+1);obtain ⟨_,_⟩:=zf hb3 w1.heap.size;clear hb3)
  | (go_at_call 39;refine (c34 _ (hT.go bgo)).mono ?_;rintro r w4 ⟨rfl,hb4⟩;obtain ⟨_,_,_,_,hA4,_⟩:=wz w hb4;obtain ⟨_,_⟩:=zf hb4 (w.heap.size+1);obtain ⟨_,_⟩:=zf hb4 w1.heap.size;obtain ⟨_,_⟩:=zf hb4 w3.heap.size;clear hb4))
 exact bodyPost_ret (v:=.tuple #[A4 R,.int .i64 F,.int .i64 E]) (by unfold A4;simp only [results,Tryz.results13];go_simp) rfl ⟨rfl,bgo⟩
variable (bs:ByteArray) (pc px:Int) (ps pg:Bool) (pd:ByteArray)
theorem drd_c (E:Int) (hE:(E != 0)=true) (c30:∀ W,CB 35 #[.string bs] W (.tuple #[.agg #[.int .i64 pc,.bool ps,.bool pg,.string pd,.int .i64 px],.int .i64 E])) :
  CB 11 #[.int .i64 n,.int .i64 d,.string bs] w (.tuple #[Z4,.int .i64 0,.int .i64 E]):=by
 have hsm:=cell_set_map
 go_enter Tryz.func11,Tryz.ntmps11
 go_wp2_with (first
  | (go_at_call 34;refine (c28 _ (hT.go bgo)).mono ?_;rintro r w1 ⟨rfl,hb1⟩;obtain ⟨_,_,_,_,hA1,_⟩:=wz w hb1;clear hb1)
  | (go_at_call 35;refine (c30 _).mono ?_;rintro r w2 ⟨rfl,hb2⟩;obtain ⟨_,_,_,_,hA2,_⟩:=wz w hb2;obtain ⟨_,_⟩:=zf hb2 w1.heap.size;clear hb2))
 exact bodyPost_ret (v:=.tuple #[Z4,.int .i64 0,.int .i64 E]) (by simp only [results,Tryz.results11];go_simp) rfl ⟨rfl,bgo⟩
theorem drd_k (R:Nat) (F E:Int) (c30:∀ W,CB 35 #[.string bs] W (.tuple #[.agg #[.int .i64 pc,.bool ps,.bool pg,.string pd,.int .i64 px],.int .i64 0]))
  (c14:∀ W,Below w.heap.size w W->CB 13 #[.int .i64 n,.int .i64 d,.agg #[.int .i64 pc,.bool ps,.bool pg,.string pd,.int .i64 px]] W (.tuple #[A4 R,.int .i64 F,.int .i64 E])) :
  CB 11 #[.int .i64 n,.int .i64 d,.string bs] w (.tuple #[A4 R,.int .i64 F,.int .i64 E]):=by
 have hsm:=cell_set_map
 unfold A4 at *
 go_enter Tryz.func11,Tryz.ntmps11
 go_wp2_with (first
  | (go_at_call 34;refine (c28 _ (hT.go bgo)).mono ?_;rintro r w1 ⟨rfl,hb1⟩;obtain ⟨_,_,_,_,hA1,_⟩:=wz w hb1;clear hb1)
  | (go_at_call 35;refine (c30 _).mono ?_;rintro r w2 ⟨rfl,hb2⟩;obtain ⟨_,_,_,_,hA2,_⟩:=wz w hb2;obtain ⟨_,_⟩:=zf hb2 w1.heap.size;clear hb2)
  | (go_at_call 13;refine (c14 _ bgo).mono ?_;rintro r w3 ⟨rfl,hb3⟩;obtain ⟨_,_,_,_,hA3,_⟩:=wz w hb3;obtain ⟨_,_⟩:=zf hb3 w1.heap.size;obtain ⟨_,_⟩:=zf hb3 w2.heap.size;clear hb3))
 exact bodyPost_ret (v:=.tuple #[A4 R,.int .i64 F,.int .i64 E]) (by unfold A4;simp only [results,Tryz.results11];go_simp) rfl ⟨rfl,bgo⟩
end
section
variable (n:Int) (Bp:Nat) (c:Int) (s g ok:Bool) (x:Int) (k:Nat) (w:World) (hT:Tab w)
include hT
theorem dwx_e (E:Int) (hE:(E != 0)=true) (c21:∀ W,Tab W->CB 28 #[.int .i64 n,A4 Bp] W (.tuple #[DV c s g x k,.bool ok,.int .i64 E])) :
  CB 9 #[.int .i64 n,A4 Bp] w (.tuple #[.string (B []),.int .i64 E]):=by
 have hsm:=cell_set_map
 unfold DV A4 at *
 go_enter Tryz.func9,Tryz.ntmps9
 go_wp2_with (go_at_call 28;refine (c21 _ (hT.go bgo)).mono ?_;rintro r w1 ⟨rfl,hb1⟩;obtain ⟨_,_,_,_,hA1,_⟩:=wz w hb1;clear hb1)
 exact bodyPost_ret (v:=.tuple #[.string (B []),.int .i64 E]) (by simp only [results,Tryz.results9];go_simp;rfl) rfl ⟨rfl,bgo⟩
variable (hT10:Tb10 w) (c21:∀ W,Tab W->CB 28 #[.int .i64 n,A4 Bp] W (.tuple #[DV c s g x k,.bool ok,.int .i64 0]))
include hT10 c21
theorem dwx_o (hc:(c != 1)=true) (T:List UInt8) (c28:∀ W,Tb10 W->CB 29 #[DV c s g x k] W (.string (B T))) :
  CB 9 #[.int .i64 n,A4 Bp] w (.tuple #[.string (B T),.int .i64 0]):=by
 have hsm:=cell_set_map
 unfold DV A4 at *
 go_enter Tryz.func9,Tryz.ntmps9
 go_wp2_with (first
  | (go_at_call 28;refine (c21 _ (hT.go bgo)).mono ?_;rintro r w1 ⟨rfl,hb1⟩;obtain ⟨_,_,_,_,hA1,_⟩:=wz w hb1;clear hb1)
  | (go_at_call 29;refine (c28 _ (hT10.next bgo)).mono ?_;rintro r w2 ⟨rfl,hb2⟩;obtain ⟨_,_,_,_,hA2,_⟩:=wz w hb2;obtain ⟨_,_⟩:=zf hb2 w1.heap.size;clear hb2))
 exact bodyPost_ret (v:=.tuple #[.string (B T),.int .i64 0]) (by simp only [results,Tryz.results9];go_simp) rfl ⟨rfl,bgo⟩
variable (hc:c=1) (hk:k<2^256) (hx:-10000<=x/\x<=10000) (D:List UInt8) (hD:D.length<=660) (T:List UInt8) (hTl:T.length<=4000)
 (c20:∀ W v,Nt 4 k v W->CB 30 #[v] W (.tuple #[.string (B D),.int .i64 0]))
 (c29:∀ W,Tb10 W->CB 31 #[.string (B D),.int .i64 (x+((B D).size:Int)-1)] W (.string (B T)))
include hc hk hx hD hTl c20 c29
theorem dwx_f (hs:s=false) :
  CB 9 #[.int .i64 n,A4 Bp] w (.tuple #[.string (B T),.int .i64 0]):=by
 subst hc hs
 have hsz:((B D).size:Int)<=660:=by rw [B_size];omega
 clear hD
 have hsm:=cell_set_map
 unfold DV A4 at *
 go_enter Tryz.func9,Tryz.ntmps9
 go_wp2_with (first
  | (go_at_call 28;refine (c21 _ (hT.go bgo)).mono ?_;rintro r w1 ⟨rfl,hb1⟩;obtain ⟨_,_,_,_,hA1,_⟩:=wz w hb1;clear hb1)
  | (go_at_call 30;refine (c20 _ _ (nt_at hk (by first | (simp;done) | (simp;omega)) (by go_simp) (by go_simp) (by go_simp) (by go_simp))).mono ?_;rintro r w2 ⟨rfl,hb2⟩;obtain ⟨_,_,_,_,hA2,_⟩:=wz w hb2;obtain ⟨_,_⟩:=zf hb2 w1.heap.size;clear hb2)
  | (go_at_call 31;refine (c29 _ (hT10.next bgo)).mono ?_;rintro r w3 ⟨rfl,hb3⟩;obtain ⟨_,_,_,_,hA3,_⟩:=wz w hb3;obtain ⟨_,_⟩:=zf hb3 w1.heap.size;clear hb3))
 exact bodyPost_ret (v:=.tuple #[.string (B T),.int .i64 0]) (by simp only [results,Tryz.results9];go_simp) rfl ⟨rfl,bgo⟩
theorem dwx_t (hs:s=true) :
  CB 9 #[.int .i64 n,A4 Bp] w (.tuple #[.string (B (45 :: T)),.int .i64 0]):=by
 subst hc hs
 have hsz:((B D).size:Int)<=660:=by rw [B_size];omega
 have hst:((B T).size:Int)<=4000:=by rw [B_size];omega
 have eB:(⟨#[45]⟩:ByteArray)++B T=B (45 :: T):=B_app [45] T
 rw [← eB]
 clear hD hTl eB
 have hsm:=cell_set_map
 unfold DV A4 at *
 go_enter Tryz.func9,Tryz.ntmps9
 go_wp2_with (first
  | (go_at_call 28;refine (c21 _ (hT.go bgo)).mono ?_;rintro r w1 ⟨rfl,hb1⟩;obtain ⟨_,_,_,_,hA1,_⟩:=wz w hb1;clear hb1)
  | (go_at_call 30;refine (c20 _ _ (nt_at hk (by first | (simp;done) | (simp;omega)) (by go_simp) (by go_simp) (by go_simp) (by go_simp))).mono ?_;rintro r w2 ⟨rfl,hb2⟩;obtain ⟨_,_,_,_,hA2,_⟩:=wz w hb2;obtain ⟨_,_⟩:=zf hb2 w1.heap.size;clear hb2)
  | (go_at_call 31;refine (c29 _ (hT10.next bgo)).mono ?_;rintro r w3 ⟨rfl,hb3⟩;obtain ⟨_,_,_,_,hA3,_⟩:=wz w hb3;obtain ⟨_,_⟩:=zf hb3 w1.heap.size;clear hb3))
 exact bodyPost_ret (v:=.tuple #[.string ((⟨#[45]⟩:ByteArray)++B T),.int .i64 0]) (by simp only [results,Tryz.results9];go_simp) rfl ⟨rfl,bgo⟩
end
end
section
attribute [local irreducible] W4 Nt NT
section
variable {a:Act} {w:World} {K:Act->World->Prop} {Q:Exit->Act->World->Prop} {d p q:Nat} {ty:TypeId} {pos:String} {after:Array Edge} {gd:Option (Nat×Bool)}
theorem opg_f1 {g:Nat} (h1:slot a p=.pointer (some ⟨g,0,none⟩)) (hK:K (a.put (some d) (.pointer (some ⟨g,1,none⟩))) w):Oper.wp Tryz.prog { dst:=some d,op:=Op.fieldAddr 35 (Operand.tmp p) 1,type:=ty,pos:=pos,after:=after,guard:=gd } a w K Q:=by
 unfold slot at h1
 simp [go_sem,h1]
 exact hK
theorem opg_f3 {g:Nat} (h1:slot a p=.pointer (some ⟨g,0,none⟩)) (hK:K (a.put (some d) (.pointer (some ⟨g,3,none⟩))) w):Oper.wp Tryz.prog { dst:=some d,op:=Op.fieldAddr 35 (Operand.tmp p) 3,type:=ty,pos:=pos,after:=after,guard:=gd } a w K Q:=by
 unfold slot at h1
 simp [go_sem,h1]
 exact hK
theorem opg_f4 {g:Nat} (h1:slot a p=.pointer (some ⟨g,0,none⟩)) (hK:K (a.put (some d) (.pointer (some ⟨g,4,none⟩))) w):Oper.wp Tryz.prog { dst:=some d,op:=Op.fieldAddr 35 (Operand.tmp p) 4,type:=ty,pos:=pos,after:=after,guard:=gd } a w K Q:=by
 unfold slot at h1
 simp [go_sem,h1]
 exact hK
theorem opi_f0 {g:Nat} (h1:slot a p=.pointer (some ⟨g,0,none⟩)) (hK:K (a.put (some d) (.pointer (some ⟨g,0,none⟩))) w):Oper.wp Tryz.prog { dst:=some d,op:=Op.fieldAddr 65 (Operand.tmp p) 0,type:=ty,pos:=pos,after:=after,guard:=gd } a w K Q:=by
 unfold slot at h1
 simp [go_sem,h1]
 exact hK
theorem opg_l9 {g i:Nat} {v:Value} (h1:slot a p=.pointer (some ⟨g,i,none⟩)) (h2:w.cell? ⟨g,i,none⟩=some v) (hK:K (a.put (some d) v) w):Oper.wp Tryz.prog { dst:=some d,op:=Op.load 9 (Operand.tmp p),type:=ty,pos:=pos,after:=after,guard:=gd } a w K Q:=by
 unfold slot at h1
 simp [go_sem,h1,h2]
 exact hK
theorem og_c5 {F:Nat} {p0 p1 p2 p3 p4:Nat} {u0 u1 u2 u3 u4:Value} {ts:Array TypeId} (hr:Sem.run Tryz.prog (callFunc F #[u0,u1,u2,u3,u4]) w=.ok (.enter F #[u0,u1,u2,u3,u4]) w) (h0:slot a p0=u0) (h1:slot a p1=u1) (h2:slot a p2=u2) (h3:slot a p3=u3) (h4:slot a p4=u4) (hc:Calls Tryz.prog F #[u0,u1,u2,u3,u4] w fun e w'=>∃ v,e=.returned v/\K (a.put (some d) v) w'):Oper.wp Tryz.prog { dst:=some d,op:=Op.call { callee:=Callee.value (Operand.func F),args:=#[Operand.tmp p0,Operand.tmp p1,Operand.tmp p2,Operand.tmp p3,Operand.tmp p4],argTypes:=ts },type:=ty,pos:=pos,after:=after,guard:=gd } a w K Q:=by
 unfold slot at h0 h1 h2 h3 h4
 simp [go_sem,h0,h1,h2,h3,h4,hr]
 refine hc.mono ?_
 rintro e w' ⟨v,rfl,hK⟩
 exact hK
end
noncomputable def opsDt2:List Oper:=(Tryz.f38.body.bind (findR 2)).getD []
def slotsDt2:List Nat:=[16,17,18,19,20,21,22,23,24,25,26,15,27,28,29,8,51,9]
def slotsADt2:List Nat:=[16,17,18,19,20,21,22,23,24,25,26,15,27,28,29,8,51,9,10]
def KDt2 (ws:World) (N:Nat) (cv:Array Value) (L:Nat->Prop) (f:Nat->Value) (w:World):Prop :=
 Below ws.heap.size ws w/\(L 7->L 10∨Nt 2001 N (f 23) w)/\(L 15->∃ g cs,f 8=.pointer (some ⟨g,0,none⟩)/\ws.heap.size<=g/\D8 g cs w/\(L 16->cs=cv))
theorem KDt2.step {ws w:World} {N:Nat} {cv:Array Value} {k t:Nat} {L:Nat->Prop} {f:Nat->Value} {v:Value} (h:KDt2 ws N cv L f w) (h1:t≠23) (h2:t≠8) (h3:k≠7) (h4:k≠15) (h5:k≠16) (h6:k≠10):KDt2 ws N cv (fun j=>L j∨j=k) (fun u=>if some t=some u then v else f u) w:=by
 obtain ⟨a1,a2,a3⟩:=h
 have e23:(if some t=some 23 then v else f 23)=f 23:=if_neg (fun e=>h1 (Option.some.inj e))
 have e8:(if some t=some 8 then v else f 8)=f 8:=if_neg (fun e=>h2 (Option.some.inj e))
 refine ⟨a1,fun h=>?_,fun h=>?_⟩
 ·rcases a2 (h.resolve_right (fun e=>h3 e.symm)) with q | q
  ·exact Or.inl (Or.inl q)
  ·right;show Nt 2001 N (if some t=some 23 then v else f 23) w;rw [e23];exact q
 ·obtain ⟨g,cs,b1,b2,b3,b4⟩:=a3 (h.resolve_right (fun e=>h4 e.symm))
  exact ⟨g,cs,e8.trans b1,b2,b3,fun h=>b4 (h.resolve_right (fun e=>h5 e.symm))⟩
theorem regDt2 {g3 g5 N vk:Nat} {n d ux vc vx F Er:Int} {us vs vg:Bool} {bs:ByteArray} {a0:Act} {ws:World} {Q:Exit->Act->World->Prop} (hs:a0.tmps.size=52) (hTW:Tab ws)
  (g1:slot a0 1=.int .i64 d) (gg3:slot a0 3=.pointer (some ⟨g3,0,none⟩)) (gg5:slot a0 5=.pointer (some ⟨g5,0,none⟩)) (hlt3:g3<ws.heap.size) (hlt:g5<ws.heap.size)
  (q0:ws.cell? ⟨g3,0,none⟩=some (.int .i64 n)) (q1:ws.cell? ⟨g5,1,none⟩=some (.bool us)) (q3:ws.cell? ⟨g5,3,none⟩=some (.string bs)) (q4:ws.cell? ⟨g5,4,none⟩=some (.int .i64 ux))
  (cN:∀ W,CE 82 #[.string bs] W (Nt 2001 N))
  (cD:∀ W v,Tab W->Nt 2001 N v W->CB 81 #[.int .i64 n,.int .i64 d,.bool us,v,.int .i64 ux] W (.tuple #[DV vc vs vg vx vk,.int .i64 F,.int .i64 Er]))
  (hQ:∀ (a:Act) (w:World) (g:Nat),slot a 8=.pointer (some ⟨g,0,none⟩)->slot a 9=.int .i64 F->slot a 10=.int .i64 Er->ws.heap.size<=g->D8 g (dvc vc vs vg vx vk) w->a.tmps.size=52->a.defers=a0.defers->(∀ t,(∀ i,i<19->slotsADt2.getD i 0≠t)->slot a t=slot a0 t)->Below ws.heap.size ws w->Q .normal a w) :
  (Code.region 2 opsDt2.toArray true).wp Tryz.prog Q a0 ws:=by
 refine wp_region_memg 18 52 slotsDt2 [iW (.pointer (some ⟨g3,0,none⟩)),iW (.int .i64 n),iW (.int .i64 d),iW (.pointer (some ⟨g5,1,none⟩)),iW (.bool us),iW (.pointer (some ⟨g5,3,none⟩)),iW (.string bs),(fun _ _=>True),iW (.pointer (some ⟨g5,4,none⟩)),iW (.int .i64 ux),iW (.tuple #[DV vc vs vg vx vk,.int .i64 F,.int .i64 Er]),iW (.tuple #[DV vc vs vg vx vk,.int .i64 F,.int .i64 Er]),iW (DV vc vs vg vx vk),iW (.int .i64 F),iW (.int .i64 Er),(fun _ _=>True),(fun _ _=>True),iW (.int .i64 F)] (fun _ _=>True) (KDt2 ws N (dvc vc vs vg vx vk)) [] [] (by kernel_rfl) (by kernel_rfl) (by kernel_rfl) (by kernel_rfl) hs ?_ (fun _=>trivial) ?_ ?_ ⟨(Below.refl _ _).drew,fun h=>h.elim,fun h=>h.elim⟩ ?_ ?_ ?_
 ·intro j c hj hc
  cases hc
 ·intro p hp
  simp only [List.mem_cons,List.not_mem_nil,or_false] at hp
  rcases hp with rfl | rfl | rfl | rfl | rfl | rfl | rfl | rfl | rfl | rfl | rfl | rfl | rfl | rfl | rfl | rfl | rfl | rfl
  all_goals exact fun _ _ _ h _=>h
 ·intro i hi hG
  cases hG
 ·intro L i o a w hi ho hG
  cases hG
 ·intro L i o a w hi ho hG hL hcl he hM hF hv
  have f1:slot a 1=.int .i64 d:=(hF 1 (by decide)).trans g1
  have f3:slot a 3=.pointer (some ⟨g3,0,none⟩):=(hF 3 (by decide)).trans gg3
  have f5:slot a 5=.pointer (some ⟨g5,0,none⟩):=(hF 5 (by decide)).trans gg5
  have hB:=hM.1
  have k0:w.cell? ⟨g3,0,none⟩=some (.int .i64 n):=(hB.cell (p:=⟨g3,0,none⟩) hlt3).trans q0
  have k1:w.cell? ⟨g5,1,none⟩=some (.bool us):=(hB.cell (p:=⟨g5,1,none⟩) hlt).trans q1
  have k3:w.cell? ⟨g5,3,none⟩=some (.string bs):=(hB.cell (p:=⟨g5,3,none⟩) hlt).trans q3
  have k4:w.cell? ⟨g5,4,none⟩=some (.int .i64 ux):=(hB.cell (p:=⟨g5,4,none⟩) hlt).trans q4
  have hor:i=0∨i=1∨i=2∨i=3∨i=4∨i=5∨i=6∨i=7∨i=8∨i=9∨i=10∨i=11∨i=12∨i=13∨i=14∨i=15∨i=16∨i=17:=by omega
  rcases hor with rfl | rfl | rfl | rfl | rfl | rfl | rfl | rfl | rfl | rfl | rfl | rfl | rfl | rfl | rfl | rfl | rfl | rfl
  ·obtain rfl:=Option.some.inj (show opsDt2[0]?=some o from ho)
   exact opi_f0 f3 ⟨_,rfl,rfl,trivial,hM.step (by decide) (by decide) (by decide) (by decide) (by decide) (by decide)⟩
  ·obtain rfl:=Option.some.inj (show opsDt2[1]?=some o from ho)
   exact og_ld3 (hv 0 (by decide) rfl (he ⟨0,.data⟩ (by simp) rfl):slot a 16=.pointer (some ⟨g3,0,none⟩)) k0 ⟨_,rfl,rfl,trivial,hM.step (by decide) (by decide) (by decide) (by decide) (by decide) (by decide)⟩
  ·obtain rfl:=Option.some.inj (show opsDt2[2]?=some o from ho)
   exact og_mv f1 ⟨_,rfl,rfl,trivial,hM.step (by decide) (by decide) (by decide) (by decide) (by decide) (by decide)⟩
  ·obtain rfl:=Option.some.inj (show opsDt2[3]?=some o from ho)
   exact opg_f1 f5 ⟨_,rfl,rfl,trivial,hM.step (by decide) (by decide) (by decide) (by decide) (by decide) (by decide)⟩
  ·obtain rfl:=Option.some.inj (show opsDt2[4]?=some o from ho)
   exact od_ld4 (hv 3 (by decide) rfl (he ⟨3,.data⟩ (by simp) rfl):slot a 19=.pointer (some ⟨g5,1,none⟩)) k1 ⟨_,rfl,rfl,trivial,hM.step (by decide) (by decide) (by decide) (by decide) (by decide) (by decide)⟩
  ·obtain rfl:=Option.some.inj (show opsDt2[5]?=some o from ho)
   exact opg_f3 f5 ⟨_,rfl,rfl,trivial,hM.step (by decide) (by decide) (by decide) (by decide) (by decide) (by decide)⟩
  ·obtain rfl:=Option.some.inj (show opsDt2[6]?=some o from ho)
   exact opg_l9 (hv 5 (by decide) rfl (he ⟨5,.data⟩ (by simp) rfl):slot a 21=.pointer (some ⟨g5,3,none⟩)) k3 ⟨_,rfl,rfl,trivial,hM.step (by decide) (by decide) (by decide) (by decide) (by decide) (by decide)⟩
  ·obtain rfl:=Option.some.inj (show opsDt2[7]?=some o from ho)
   obtain ⟨a1,a2,a3⟩:=hM
   refine og_c1 (by simp [go_sem]) (hv 6 (by decide) rfl (he ⟨6,.data⟩ (by simp) rfl):slot a 22=.string bs) ((cN w).mono ?_)
   rintro e w' ⟨v,rfl,hNv,hb⟩
   refine ⟨v,rfl,_,rfl,trivial,trivial,bnx hB hb,fun _=>Or.inr hNv,fun h15=>?_⟩
   obtain ⟨g,cs,b1,b2,b3,b4⟩:=a3 (h15.resolve_right (by decide))
   exact ⟨g,cs,b1,b2,b3.next hb,fun h=>b4 (h.resolve_right (by decide))⟩
  ·obtain rfl:=Option.some.inj (show opsDt2[8]?=some o from ho)
   exact opg_f4 f5 ⟨_,rfl,rfl,trivial,hM.step (by decide) (by decide) (by decide) (by decide) (by decide) (by decide)⟩
  ·obtain rfl:=Option.some.inj (show opsDt2[9]?=some o from ho)
   exact og_ld3 (hv 8 (by decide) rfl (he ⟨8,.data⟩ (by simp) rfl):slot a 24=.pointer (some ⟨g5,4,none⟩)) k4 ⟨_,rfl,rfl,trivial,hM.step (by decide) (by decide) (by decide) (by decide) (by decide) (by decide)⟩
  ·obtain rfl:=Option.some.inj (show opsDt2[10]?=some o from ho)
   obtain ⟨a1,a2,a3⟩:=hM
   have l7:=he ⟨7,.data⟩ (by simp) rfl
   have h1:Nt 2001 N (slot a 23) w:=(a2 l7).resolve_left hL
   refine og_c5 (by simp [go_sem]) (hv 1 (by decide) rfl (he ⟨1,.data⟩ (by simp) rfl):slot a 17=.int .i64 n) (hv 2 (by decide) rfl (he ⟨2,.data⟩ (by simp) rfl):slot a 18=.int .i64 d) (hv 4 (by decide) rfl (he ⟨4,.data⟩ (by simp) rfl):slot a 20=.bool us) rfl (hv 9 (by decide) rfl (he ⟨9,.data⟩ (by simp) rfl):slot a 25=.int .i64 ux) ((cD w _ (hTW.go hB) h1).mono ?_)
   rintro e w' ⟨rfl,hb⟩
   refine ⟨_,rfl,_,rfl,rfl,trivial,bnx hB hb,fun _=>Or.inl (Or.inr rfl),fun h15=>?_⟩
   obtain ⟨g,cs,b1,b2,b3,b4⟩:=a3 (h15.resolve_right (by decide))
   exact ⟨g,cs,b1,b2,b3.next hb,fun h=>b4 (h.resolve_right (by decide))⟩
  ·obtain rfl:=Option.some.inj (show opsDt2[11]?=some o from ho)
   exact og_mv (hv 10 (by decide) rfl (he ⟨10,.data⟩ (by simp) rfl):slot a 26=.tuple #[DV vc vs vg vx vk,.int .i64 F,.int .i64 Er]) ⟨_,rfl,rfl,trivial,hM.step (by decide) (by decide) (by decide) (by decide) (by decide) (by decide)⟩
  ·obtain rfl:=Option.some.inj (show opsDt2[12]?=some o from ho)
   exact og_ext (hv 11 (by decide) rfl (he ⟨11,.data⟩ (by simp) rfl):slot a 15=.tuple #[DV vc vs vg vx vk,.int .i64 F,.int .i64 Er]) rfl ⟨_,rfl,rfl,trivial,hM.step (by decide) (by decide) (by decide) (by decide) (by decide) (by decide)⟩
  ·obtain rfl:=Option.some.inj (show opsDt2[13]?=some o from ho)
   exact og_ext (hv 11 (by decide) rfl (he ⟨11,.data⟩ (by simp) rfl):slot a 15=.tuple #[DV vc vs vg vx vk,.int .i64 F,.int .i64 Er]) rfl ⟨_,rfl,rfl,trivial,hM.step (by decide) (by decide) (by decide) (by decide) (by decide) (by decide)⟩
  ·obtain rfl:=Option.some.inj (show opsDt2[14]?=some o from ho)
   exact og_ext (hv 11 (by decide) rfl (he ⟨11,.data⟩ (by simp) rfl):slot a 15=.tuple #[DV vc vs vg vx vk,.int .i64 F,.int .i64 Er]) rfl ⟨_,rfl,rfl,trivial,hM.step (by decide) (by decide) (by decide) (by decide) (by decide) (by decide)⟩
  ·have hL16:¬ L 16:=fun h=>hL (hcl 16 _ (show opsDt2[16]?=some _ from rfl) h ⟨15,.data⟩ (by simp) rfl)
   obtain rfl:=Option.some.inj (show opsDt2[15]?=some o from ho)
   have hb:=below1 w (.cells zd 50)
   obtain ⟨a1,a2,a3⟩:=hM
   refine od_alc ⟨_,rfl,trivial,trivial,bnx hB hb,fun h6=>?_,fun _=>⟨_,zd,rfl,hB.size,D8.new w,fun h=>absurd (h.resolve_right (by decide)) hL16⟩⟩
   rcases a2 (h6.resolve_right (by decide)) with q | q
   ·exact Or.inl (Or.inl q)
   ·exact Or.inr (q.next hb)
  ·obtain rfl:=Option.some.inj (show opsDt2[16]?=some o from ho)
   obtain ⟨a1,a2,a3⟩:=hM
   have l15:=he ⟨15,.data⟩ (by simp) rfl
   have l12:=he ⟨12,.data⟩ (by simp) rfl
   have l11:=hcl 12 _ (show opsDt2[12]?=some _ from rfl) l12 ⟨11,.data⟩ (by simp) rfl
   have l10:=hcl 11 _ (show opsDt2[11]?=some _ from rfl) l11 ⟨10,.data⟩ (by simp) rfl
   obtain ⟨g,cs,b1,b2,b3,b4⟩:=a3 l15
   exact od_st b1 (hv 12 (by decide) rfl l12:slot a 27=DV vc vs vg vx vk) b3 ⟨.bool false,rfl,trivial,trivial,below_cellsD b2 _ _ _ hB,fun _=>Or.inl (Or.inl l10),fun _=>⟨g,_,b1,b2,b3.put rfl,fun _=>rfl⟩⟩
  ·obtain rfl:=Option.some.inj (show opsDt2[17]?=some o from ho)
   exact og_as (hv 13 (by decide) rfl (he ⟨13,.data⟩ (by simp) rfl):slot a 28=.int .i64 F) ⟨_,rfl,rfl,trivial,hM.step (by decide) (by decide) (by decide) (by decide) (by decide) (by decide)⟩
 ·intro L a w hL hM hsz hdf hF hv
  obtain ⟨hB,a2,a3⟩:=hM
  obtain ⟨g,cs,e14,hg,hD,hc⟩:=a3 (hL 15 (by decide))
  obtain rfl:=hc (hL 16 (by decide))
  have h15:slot a 9=.int .i64 F:=hv 17 (by decide) rfl
  have h68:slot a 29=.int .i64 Er:=hv 14 (by decide) rfl
  refine BigFrame.wpList_want rfl fun K hK=>og_as h68 (hK _ _ ?_)
  clear K hK
  refine hQ _ _ g ?_ ?_ (slot_put (by omega)) hg hD (by simp only [put_sizeV];exact hsz) hdf (fun t ht=>?_) hB
  ·rw [slot_put_ne (by decide)];exact e14
  ·rw [slot_put_ne (by decide)];exact h15
  ·rw [slot_put_ne (show 10≠t from ht 18 (by decide))]
   exact hF t fun i hi=>by
    have hor:i=0∨i=1∨i=2∨i=3∨i=4∨i=5∨i=6∨i=7∨i=8∨i=9∨i=10∨i=11∨i=12∨i=13∨i=14∨i=15∨i=16∨i=17:=by omega
    rcases hor with rfl | rfl | rfl | rfl | rfl | rfl | rfl | rfl | rfl | rfl | rfl | rfl | rfl | rfl | rfl | rfl | rfl | rfl
    ·exact ht 0 (by decide)
    ·exact ht 1 (by decide)
    ·exact ht 2 (by decide)
    ·exact ht 3 (by decide)
    ·exact ht 4 (by decide)
    ·exact ht 5 (by decide)
    ·exact ht 6 (by decide)
    ·exact ht 7 (by decide)
    ·exact ht 8 (by decide)
    ·exact ht 9 (by decide)
    ·exact ht 10 (by decide)
    ·exact ht 11 (by decide)
    ·exact ht 12 (by decide)
    ·exact ht 13 (by decide)
    ·exact ht 14 (by decide)
    ·exact ht 15 (by decide)
    ·exact ht 16 (by decide)
    ·exact ht 17 (by decide)
end
section
theorem vT_256 {f:DF} (h:f.ok) {R:Nat} (hR:R<2^f.t):vT f R<2^128:=by
 have hw:=h.w12
 have:=ten_128 h
 cases hd:f.dn
 ·unfold vT;rw [hd,if_neg (by decide)];exact Nat.lt_of_lt_of_le hR (Nat.pow_le_pow_right (by decide) (by omega))
 ·exact Nat.lt_trans (vT_lt h hd R) this.2
theorem vL_9 {f:DF} (dn:Bool) (w G:Nat):vL dn w G<=9:=by
 unfold vL
 cases dn <;> simp only [Bool.false_eq_true,if_false,if_true] <;> split <;> omega
theorem dsgn_ge (A B:Nat):0<=sgn (A:Int) (B:Int)↔¬ A<B:=by
 unfold sgn
 by_cases h:(A:Int)<(B:Int)
 ·rw [if_pos h];constructor
  ·intro q;exact absurd q (by decide)
  ·intro q;omega
 ·rw [if_neg h];constructor
  ·intro _;omega
  ·intro _;split <;> decide
section
variable {f:DF} (h:f.ok)
include h
theorem fmean (B:Nat) (w:World) (hB:B<2^256):Calls Tryz.prog 61 #[LF f,A4 B] w fun r w'=>r=.returned (vM f B).v/\Below w.heap.size w w':=by
 have hw:=h.w12
 have hG:=vG_lt f B
 have hR:=vR_lt f B
 have cs:=fun W=>fsplit h B W hB
 have ck:=fun W=>fkind h (vG f B) W hG
 have cr:=fun W=>fread h (vR f B) W hR
 have hU:=vT_256 h hR
 have h10:=ten_128 h
 have e256:(2:Nat)^128*2^4<2^256:=by decide
 unfold vM vD
 generalize vG f B=G at *
 generalize vR f B=R at *
 generalize vS f B=s at *
 by_cases h30:vV f.w G=30
 ·rw [if_pos h30]
  exact dmean_i _ _ _ _ _ _ _ _ _ w B R s (G:Int) _ cs ck (by rw [h30];rfl)
 ·rw [if_neg h30]
  have e30:(((vV f.w G:Nat):Int) == 30)=false:=by rw [show (30:Int)=((30:Nat):Int) from rfl,beq_dec];exact decide_eq_false h30
  by_cases h31:vV f.w G=31
  ·rw [if_pos h31]
   exact dmean_n _ _ _ _ _ _ _ _ _ w B R s (G:Int) _ cs ck (vT f R) _ cr _ e30 (by rw [h31];rfl) (fun W=>fsig h G W hG) (fun W=>nought_v (vT f R) (10^(3*f.j)) W (by omega) (by omega))
  ·rw [if_neg h31]
   have e31:(((vV f.w G:Nat):Int) == 31)=false:=by rw [show (31:Int)=((31:Nat):Int) from rfl,beq_dec];exact decide_eq_false h31
   have hL:=vL_9 (f:=f) f.dn f.w G
   have hq:=vQ_256 h
   have hm:vL f.dn f.w G*vQ f<=2^4*2^128:=Nat.mul_le_mul (by omega) (by omega)
   have cm:=fun W=>mul4 (vQ f) (vL f.dn f.w G) W (by omega) (by omega)
   rw [Nat.mul_comm (vQ f)] at cm
   have hF:vF f.dn f.w G<1000000:=by
    unfold vF vV
    rcases h with ⟨h1,h2,h3,h4⟩ | ⟨h1,h2,h3,h4⟩ | ⟨h1,h2,h3,h4⟩ <;> rw [h2] at hG ⊢ <;> cases f.dn <;> simp only [Bool.false_eq_true,if_false,if_true] <;> simp only [Nat.reducePow,Nat.reduceAdd] at*<;> split <;> omega
   have hl:-1000000<=f.l/\f.l<=1000000:=by rcases h with ⟨h1,h2,h3,h4⟩ | ⟨h1,h2,h3,h4⟩ | ⟨h1,h2,h3,h4⟩ <;> omega
   have e5:(2:Nat)^4*2^128+2^128<2^256:=by decide
   exact dmean_f _ _ _ _ _ _ _ _ _ w B R s (G:Int) _ cs ck (vT f R) _ cr _ _ _ _ _ _ e30 e31 (by omega) (by omega) hl.1 hl.2 (fun W=>fpart h G W hG) cm (fun W=>add4 _ _ W (by omega) (by omega)) (fun W=>nought_v _ (10^(3*f.j+1)) W (by omega) (by omega))
theorem fpack (d:Dat) (w:World) (hk:d.k<2^256):CB 62 #[LF f,d.v] w (.tuple #[A4 (if vI f d then vP f d else 0),.int .i64 (if vI f d then 0 else 3)]):=by
 have hw:=h.w12
 have h10:=ten_128 h
 have hq:=vQ_256 h
 have e256:(2:Nat)^128<2^256:=by decide
 have hl:-1000000<=f.l/\f.l<=0:=by rcases h with ⟨h1,h2,h3,h4⟩ | ⟨h1,h2,h3,h4⟩ | ⟨h1,h2,h3,h4⟩ <;> omega
 have hw3:(3*2^f.w:Nat)<=3*2^12:=Nat.mul_le_mul (Nat.le_refl _) (Nat.pow_le_pow_right (by decide) (by omega))
 have ei:((3*2^f.w:Nat):Int)=3*2^f.w:=by rw [Int.natCast_mul,i2pow];rfl
 obtain ⟨c,s,g,x,k⟩:=d
 simp only at hk
 by_cases h1:c=1
 ·subst h1
  refine dpack_1 _ _ _ _ _ _ _ _ _ w x s g k _ _ ?_
  intro W
  by_cases hi:vI f ⟨1,s,g,x,k⟩
  ·rw [if_pos hi,if_pos hi]
   have hPG:=vPG_lt h hi
   have hPR:=vPR_lt h hi
   obtain ⟨_,hg,hk10,hx0,hx1⟩:(1:Int)=1/\g=false/\k<10^(3*f.j+1)/\f.l<=x/\x<=f.l+3*2^f.w-1:=by
    rcases hi with hi | hi | hi
    ·exact hi
    ·exact absurd (show (1:Int)=2 from hi.1) (by decide)
    ·exact absurd (show (1:Int)=3 from hi.1) (by decide)
   subst hg
   have hqp:0<vQ f:=by
    unfold vQ;cases f.dn <;> simp only [Bool.false_eq_true,if_false,if_true]
    ·exact Nat.two_pow_pos _
    ·exact Nat.pow_pos (by decide)
   have hm9:k/vQ f<=9:=by
    unfold vQ
    rcases h with ⟨h1,h2,h3,h4⟩ | ⟨h1,h2,h3,h4⟩ | ⟨h1,h2,h3,h4⟩ <;> rw [h3] at hk10 ⊢ <;> rw [h1] <;> cases f.dn <;> simp only [Bool.false_eq_true,if_false,if_true] <;> simp only [Nat.reducePow,Nat.reduceAdd,Nat.reduceMul] at*<;> omega
   have hmod:k-k/vQ f*vQ f=k%vQ f:=by have:=Nat.div_add_mod' k (vQ f);omega
   have hlt:=Nat.mod_lt k hqp
   have hE:(x-f.l).toNat<3*2^f.w:=by omega
   have hEi:x-f.l=(((x-f.l).toNat:Nat):Int):=by omega
   have cn:=fun W=>funite h (x-f.l).toNat (k/vQ f) W hE hm9
   rw [← hEi] at cn
   have hvN:vPG f ⟨1,s,false,x,k⟩=vN f.dn f.w (x-f.l).toNat (k/vQ f):=rfl
   rw [← hvN] at cn
   have hR0:∀ i,k-i*vQ f<2^256:=fun i=>by omega
   have cw:=fun W=>fwrite h (k-k/vQ f*vQ f) W (hR0 _) (fun hd=>by
    rw [hmod,← ten3]
    have:vQ f=10^(3*f.j):=by unfold vQ;rw [hd,if_pos rfl]
    rw [this] at hlt ⊢
    exact hlt)
   have ew:(if f.dn=true then dlP f.j (k-k/vQ f*vQ f) else k-k/vQ f*vQ f)=vPR f ⟨1,s,false,x,k⟩:=by
    rw [hmod]
    unfold vPR vQ
    simp only [show ¬ ((1:Int)=2) by decide,show ¬ ((1:Int)=3) by decide,if_false]
    cases f.dn <;> simp
   rw [ew] at cw
   have cj:=fun W=>fjoin h s _ _ W hPG hPR
   refine dfin_y _ _ _ _ _ _ _ _ _ W x s k _ _ (fun W=>cmp4 k _ W hk (by omega)) (by omega) (by omega) (by rw [dsgn_ge];omega) (k/vQ f) (by omega) (fun i=>k-i*vQ f) (fun i=>sgn ((k-i*vQ f:Nat):Int) (vQ f:Int)) (fun i=>if k-i*vQ f<vQ f then 1 else 0) (by simp) _ hl.1 (by omega) (by omega) _ ?_ ?_ ?_ ?_ cn cw cj
   ·show ∀ _,_
    intro i hi W
    exact cmp4 _ _ W (hR0 i) (by omega)
   ·show ∀ _,_
    intro i hi
    rw [dsgn_ge]
    have:(i+1)*vQ f<=k:=Nat.le_trans (Nat.mul_le_mul_right _ hi) (Nat.div_mul_le_self _ _)
    rw [Nat.add_mul,Nat.one_mul] at this
    omega
   ·show ¬ _
    rw [dsgn_ge,hmod];omega
   ·show ∀ _,_
    intro i hi W
    have:(i+1)*vQ f<=k:=Nat.le_trans (Nat.mul_le_mul_right _ hi) (Nat.div_mul_le_self _ _)
    have e:k-(i+1)*vQ f=k-i*vQ f-vQ f:=by rw [Nat.add_mul,Nat.one_mul];omega
    rw [Nat.add_mul,Nat.one_mul] at this
    have c:=sub4 (k-i*vQ f) (vQ f) W (hR0 i) (by omega)
    rw [A4_sub (by omega),← e] at c
    exact c
  ·rw [if_neg hi,if_neg hi]
   cases g
   ·by_cases a1:x<f.l
    ·exact dfin_l _ _ _ _ _ _ _ _ _ W x s k a1
    ·by_cases a2:f.l+3*2^f.w-1<x
     ·exact dfin_m _ _ _ _ _ _ _ _ _ W x s k a1 a2
     ·have a3:¬ k<10^(3*f.j+1):=fun q=>hi (Or.inl ⟨rfl,rfl,q,(by omega:f.l<=x),(by omega:x<=f.l+3*2^f.w-1)⟩)
      exact dfin_k _ _ _ _ _ _ _ _ _ W x s k _ (fun W=>cmp4 k _ W hk (by omega)) a1 a2 ((dsgn_ge _ _).2 a3)
   ·exact dfin_s _ _ _ _ _ _ _ _ _ W x s k
 ·by_cases h2:c=2
  ·subst h2
   refine dpack_2 _ _ _ _ _ _ _ _ _ w x s g k _ _ ?_
   intro W
   by_cases hi:vI f ⟨2,s,g,x,k⟩
   ·rw [if_pos hi,if_pos hi]
    have hPG:=vPG_lt h hi
    obtain ⟨_,hg,hk0,hx0⟩:(2:Int)=2/\g=false/\k=0/\x=0:=by
     rcases hi with hi | hi | hi
     ·exact absurd (show (2:Int)=1 from hi.1) (by decide)
     ·exact hi
     ·exact absurd (show (2:Int)=3 from hi.1) (by decide)
    subst hg hk0 hx0
    have cp:=fun W=>fspec h 30 false W (by decide)
    have cj:=fun W=>fjoin h s _ 0 W hPG (Nat.two_pow_pos _)
    rw [Z4_eq] at cj
    exact dinf_y _ _ _ _ _ _ _ _ _ W s _ _ cp cj
   ·rw [if_neg hi,if_neg hi]
    cases g
    ·by_cases a1:x=0
     ·subst a1
      refine dinf_k _ _ _ _ _ _ _ _ _ W s k (decide_eq_false fun q=>hi (Or.inr (Or.inl ⟨rfl,rfl,?_,rfl⟩)))
      refine A4_inj hk (by decide) fun i hi=>?_
      rw [W4_zero]
      rcases (show i=0∨i=1∨i=2∨i=3 by omega) with e | e | e | e <;> subst e
      ·exact q.1
      ·exact q.2.1
      ·exact q.2.2.1
      ·exact q.2.2.2
     ·exact dinf_x _ _ _ _ _ _ _ _ _ W x s k (by simp [a1])
    ·exact dinf_s _ _ _ _ _ _ _ _ _ W x s k
  ·by_cases h3:c=3
   ·subst h3
    refine dpack_3 _ _ _ _ _ _ _ _ _ w x s g k _ _ ?_
    intro W
    by_cases hi:vI f ⟨3,s,g,x,k⟩
    ·rw [if_pos hi,if_pos hi]
     have hPG:=vPG_lt h hi
     have hPR:=vPR_lt h hi
     obtain ⟨_,hx0,hk10⟩:(3:Int)=3/\x=0/\k<10^(3*f.j):=by
      rcases hi with hi | hi | hi
      ·exact absurd (show (3:Int)=1 from hi.1) (by decide)
      ·exact absurd (show (3:Int)=2 from hi.1) (by decide)
      ·exact hi
     subst hx0
     have cp:=fun W=>fspec h 31 g W (by decide)
     have cw:=fun W=>fwrite h k W hk (fun _=>by rw [← ten3];exact hk10)
     have cj:=fun W=>fjoin h s _ _ W hPG hPR
     exact dnan_y _ _ _ _ _ _ _ _ _ W s g k _ _ _ (fun W=>cmp4 k _ W hk (by omega)) _ (by rw [dsgn_ge];omega) cp cw cj
    ·rw [if_neg hi,if_neg hi]
     by_cases a1:x=0
     ·subst a1
      have a3:¬ k<10^(3*f.j):=fun q=>hi (Or.inr (Or.inr ⟨rfl,rfl,q⟩))
      exact dnan_k _ _ _ _ _ _ _ _ _ W s g k _ (fun W=>cmp4 k _ W hk (by omega)) ((dsgn_ge _ _).2 a3)
     ·exact dnan_x _ _ _ _ _ _ _ _ _ W x s g k (by simp [a1])
   ·have hi:¬ vI f ⟨c,s,g,x,k⟩:=by
     rintro (q | q | q)
     ·exact h1 q.1
     ·exact h2 q.1
     ·exact h3 q.1
    rw [if_neg hi,if_neg hi]
    exact dpack_0 _ _ _ _ _ _ _ _ _ w c x s g k (by simp [h1]) (by simp [h2]) (by simp [h3])
end
end
section
attribute [local irreducible] W4
theorem vU_good {n:Int} {B:Nat} (h:goodD n B):vUD n B=vM (fD n) B/\vUC n B=decide (vP (fD n) (vM (fD n) B)=B)/\vUE n B=0:=by
 unfold vUD vUC vUE
 exact ⟨if_pos h,decide_eq_decide.2 ⟨fun q=>q.2,fun q=>⟨h,q⟩⟩,if_pos h⟩
theorem vU_bad {n:Int} {B:Nat} (h:¬ goodD n B):vUD n B=⟨0,false,false,0,0⟩/\vUC n B=false/\vUE n B=1:=by
 unfold vUD vUC vUE
 exact ⟨if_neg h,decide_eq_false fun q=>h q.1,if_neg h⟩
end
theorem layof_ok (n:Int) (w:World) (hT:Tab w) (hd:decN n):CB 83 #[.int .i64 n] w (.tuple #[LF (fD n),.int .i64 0]):=by
 obtain ⟨hok,f1,f2,f3,f4,f5,f6,f7,f8⟩:=dec_fields hd
 have c1:=fun W hW=>ofv_any n W hW
 rw [show infoE n=0 from if_pos hok,f1,f2,f3,f4,f5,f6,f7,f8] at c1
 have h:=fD_ok n
 have hw:=h.w12
 generalize fD n=f at *
 have hG:((f.t+(f.w+6):Nat):Int)/16+9=((f.w+5:Nat):Int):=by rcases h with ⟨h1,h2,h3,h4⟩ | ⟨h1,h2,h3,h4⟩ | ⟨h1,h2,h3,h4⟩ <;> rw [h1,h2] <;> rfl
 have cc:=fun W=>dten_v (3*f.j+1) W (by omega)
 have cp:=fun W=>dten_v (3*f.j) W (by omega)
 have e1:((3*f.j+1:Nat):Int)=3*(f.j:Int)+1:=by omega
 have e2:((3*f.j:Nat):Int)=3*(f.j:Int):=by omega
 have cw:=cp
 rw [e1] at cc
 rw [e2] at cp
 unfold LF
 cases e:f.dn
 ·rw [e] at c1
  have eB:vB f=0:=by unfold vB;rw [e,if_neg (by decide)]
  have eQ:vQ f=2^f.t:=by unfold vQ;rw [e,if_neg (by decide)]
  have cs:=fun W=>shl4 1 f.t W (by decide) (by omega)
  rw [Nat.one_mul] at cs
  rw [eB,eQ]
  exact dlay_p n _ n _ _ _ _ _ _ w hT _ _ _ _ (by omega) (by omega) hG (by omega) (by omega) (by omega) (by omega) (by omega) cc cp _ c1 (fun W=>of4 1 W (by decide)) cs
 ·rw [e] at c1
  have eB:vB f=f.w:=by unfold vB;rw [e,if_pos rfl]
  have eQ:vQ f=10^(3*f.j):=by unfold vQ;rw [e,if_pos rfl]
  rw [eB,eQ]
  rw [show ((3*f.j:Nat):Int)=3*(f.j:Int)+1-1 by omega] at cw
  exact dlay_d n _ n _ _ _ _ _ _ w hT _ _ _ _ (by omega) (by omega) hG (by omega) (by omega) (by omega) (by omega) (by omega) cc cp _ _ (by omega) (by omega) (by omega) c1 cw
theorem not_dec {n:Int} (h:¬ decN n):(okN n/\(baseN n != 10)=true)∨¬ okN n:=by
 by_cases hk:okN n
 ·left
  refine ⟨hk,?_⟩
  unfold decN at h
  rcases okN_cases hk with rfl | rfl | rfl | rfl | rfl | rfl | rfl | rfl | rfl | rfl | rfl | rfl <;> first | rfl | omega
 ·exact Or.inr hk
theorem layof_bad (n:Int) (w:World) (hT:Tab w) (hd:¬ decN n):CB 83 #[.int .i64 n] w (.tuple #[ZL,.int .i64 1]):=by
 have c1:=fun W hW=>ofv_any n W hW
 rcases not_dec hd with ⟨hk,hb⟩ | hk
 ·rw [show infoE n=0 from if_pos hk] at c1
  exact dlay_b n _ _ _ _ _ _ _ _ _ _ w hT hb c1
 ·rw [show infoE n=1 from if_neg hk] at c1
  exact dlay_e n _ _ _ _ _ _ _ _ _ _ w hT 1 rfl c1
theorem fits_dec {n:Int} (B:Nat) (hd:decN n):(okN n/\B<2^(widthN n).toNat)↔goodD n B:=by
 have hF:=dec_fields hd
 rw [hF.2.2.2.1,Int.toNat_natCast]
 exact ⟨fun h=>⟨hd,h.2⟩,fun h=>⟨hF.1,h.2⟩⟩
theorem layfor_ok (n:Int) (B:Nat) (w:World) (hT:Tab w) (hB:B<2^256) (hg:goodD n B):CB 60 #[.int .i64 n,A4 B] w (.tuple #[LF (fD n),.int .i64 0]):=by
 have c1:=fun W hW=>fits4 n B hB W hW
 rw [decide_eq_true ((fits_dec B hg.1).2 hg)] at c1
 exact dfor_y n B w hT c1 _ _ _ _ _ _ _ _ _ (fun W hW=>layof_ok n W hW hg.1)
theorem layfor_bad (n:Int) (B:Nat) (w:World) (hT:Tab w) (hB:B<2^256) (hg:¬ goodD n B):CB 60 #[.int .i64 n,A4 B] w (.tuple #[ZL,.int .i64 1]):=by
 have c1:=fun W hW=>fits4 n B hB W hW
 by_cases hd:decN n
 ·rw [decide_eq_false (fun q=>hg ((fits_dec B hd).1 q))] at c1
  exact dfor_n n B w hT c1
 ·by_cases hf:okN n/\B<2^(widthN n).toNat
  ·rw [decide_eq_true hf] at c1
   exact dfor_b n B w hT c1 (fun W hW=>layof_bad n W hW hd)
  ·rw [decide_eq_false hf] at c1
   exact dfor_n n B w hT c1
theorem dpack14 (n:Int) (d:Dat) (hk:d.k<2^256) (W:World) (hT:Tab W):CB 39 #[.int .i64 n,d.v] W (.tuple #[A4 (vPV n d),.int .i64 (vPE n d)]):=by
 unfold vPV vPE
 by_cases hd:decN n
 ·have c2:=fun W=>fpack (fD_ok n) d W hk
  have e1:(if decN n/\vI (fD n) d then vP (fD n) d else 0)=(if vI (fD n) d then vP (fD n) d else 0):=by
   by_cases hi:vI (fD n) d
   ·rw [if_pos ⟨hd,hi⟩,if_pos hi]
   ·rw [if_neg (fun q=>hi q.2),if_neg hi]
  rw [e1,if_pos hd]
  exact dpck14_y n W hT _ _ _ _ _ _ _ _ _ _ _ _ _ _ _ _ (fun W hW=>layof_ok n W hW hd) c2
 ·rw [if_neg (fun q=>hd q.1),if_neg hd]
  exact dpck14_n n W hT _ _ _ _ _ (fun W hW=>layof_bad n W hW hd)
theorem dunpk14 (n:Int) (B:Nat) (hB:B<2^256) (W:World) (hT:Tab W):CB 28 #[.int .i64 n,A4 B] W (.tuple #[(vUD n B).v,.bool (vUC n B),.int .i64 (vUE n B)]):=by
 by_cases hg:goodD n B
 ·obtain ⟨e1,e2,e3⟩:=vU_good hg
  rw [e1,e2,e3]
  have h:=fD_ok n
  have c3:=fun W=>fpack h (vM (fD n) B) W (vM_256 h B)
  rw [if_pos (vM_is h B),if_pos (vM_is h B)] at c3
  refine dunp_y n W hT _ _ _ _ _ _ _ _ _ B (fun W hW=>layfor_ok n B W hW hB hg) _ _ _ _ _ _ _ (fun W=>fmean h B W hB) c3 _ ?_
  exact eq_words (vP_256 h (vM_is h B)) hB
 ·obtain ⟨e1,e2,e3⟩:=vU_bad hg
  rw [e1,e2,e3,zero_v]
  exact dunp_n n W hT B (fun W hW=>layfor_bad n B W hW hB hg)
section
attribute [local irreducible] W4
section
variable (n d:Int) (bs:ByteArray) (w:World)
variable (c17:∀ W,CQ 17 #[.int .i64 n] W (.bool true))
include c17
variable (c18:∀ W,CQ 18 #[.int .i64 d] W (.bool true)) (pc px:Int) (ps pg:Bool) (pd:ByteArray)
include c18
end
noncomputable def krE (n d:Int) (l:List UInt8):Int:=if decN n/\knB d then (if cutE l=0 then kmE n d (cutV l) else cutE l) else 1
noncomputable def krV (n d:Int) (l:List UInt8):Nat:=if krE n d l=0 then kmV n d (cutV l) else 0
noncomputable def krF (n d:Int) (l:List UInt8):Int:=if krE n d l=0 then kmF n d (cutV l) else 0
theorem km_not {n d:Int} {p:Prt} (h:kmE n d p≠0):kmV n d p=0/\kmF n d p=0:=⟨if_neg h,if_neg h⟩
theorem cut_exD {l:List UInt8} {p:Prt} (h:cutP l=some p):-9223372036854775808<=p.ex/\p.ex<=9223372036854775807:=by
 rcases (cut_good h).2 with ⟨_,_,h⟩ | h | h
 ·omega
 ·obtain ⟨_,_,_,h⟩:=h
  omega
 ·obtain ⟨_,h⟩:=h
  omega
end
section
attribute [local irreducible] W4 Nt
section
variable (n:Int) (Bp:Nat) (c:Int) (s g ok:Bool) (x:Int) (k:Nat) (w:World)
theorem rwx_e (E:Int) (hE:(E != 0)=true) (c21:∀ W,CB 21 #[.int .i64 n,A4 Bp] W (.tuple #[DV c s g x k,.bool ok,.int .i64 E])) :
  CB 10 #[.int .i64 n,A4 Bp] w (.tuple #[.string (B []),.int .i64 E]):=by
 have hsm:=cell_set_map
 unfold DV A4 at *
 go_enter Tryz.func10,Tryz.ntmps10
 go_wp2_with (go_at_call 21;refine (c21 _).mono ?_;rintro r w1 ⟨rfl,hb1⟩;obtain ⟨_,_,_,_,hA1,_⟩:=wz w hb1;clear hb1)
 exact bodyPost_ret (v:=.tuple #[.string (B []),.int .i64 E]) (by simp only [results,Tryz.results10];go_simp;rfl) rfl ⟨rfl,bgo⟩
variable (hT10:Tb10 w) (c21:∀ W,CB 21 #[.int .i64 n,A4 Bp] W (.tuple #[DV c s g x k,.bool ok,.int .i64 0]))
include hT10 c21
theorem rwx_o (hc:(c != 1)=true) (T:List UInt8) (c28:∀ W,Tb10 W->CB 32 #[DV c s g x k] W (.string (B T))) :
  CB 10 #[.int .i64 n,A4 Bp] w (.tuple #[.string (B T),.int .i64 0]):=by
 have hsm:=cell_set_map
 unfold DV A4 at *
 go_enter Tryz.func10,Tryz.ntmps10
 go_wp2_with (first
  | (go_at_call 21;refine (c21 _).mono ?_;rintro r w1 ⟨rfl,hb1⟩;obtain ⟨_,_,_,_,hA1,_⟩:=wz w hb1;clear hb1)
  | (go_at_call 32;refine (c28 _ (hT10.next bgo)).mono ?_;rintro r w2 ⟨rfl,hb2⟩;obtain ⟨_,_,_,_,hA2,_⟩:=wz w hb2;obtain ⟨_,_⟩:=zf hb2 w1.heap.size;clear hb2))
 exact bodyPost_ret (v:=.tuple #[.string (B T),.int .i64 0]) (by simp only [results,Tryz.results10];go_simp) rfl ⟨rfl,bgo⟩
variable (hc:c=1) (hk:k<2^256) (D D' T:List UInt8)
 (c20:∀ W v,Nt 4 k v W->CB 20 #[v] W (.string (B D)))
 (c29:∀ W,Tb10 W->CB 33 #[.bool s,.string (B D'),.int .i64 x] W (.string (B T)))
include hc hk c20 c29
theorem rwx_0 (h0:D=[]) (h1:D'=[48]) :
  CB 10 #[.int .i64 n,A4 Bp] w (.tuple #[.string (B T),.int .i64 0]):=by
 subst hc h0 h1
 have hB0:B ([]:List UInt8)=⟨#[]⟩:=rfl
 have hB1:B ([48]:List UInt8)=⟨#[48]⟩:=rfl
 rw [hB0] at c20
 rw [hB1] at c29
 have hsm:=cell_set_map
 unfold DV A4 at *
 go_enter Tryz.func10,Tryz.ntmps10
 go_wp2_with (first
  | (go_at_call 21;refine (c21 _).mono ?_;rintro r w1 ⟨rfl,hb1⟩;obtain ⟨_,_,_,_,hA1,_⟩:=wz w hb1;clear hb1)
  | (go_at_call 20;refine (c20 _ _ (nt_at hk (by simp) (by go_simp) (by go_simp) (by go_simp) (by go_simp))).mono ?_;rintro r w2 ⟨rfl,hb2⟩;obtain ⟨_,_,_,_,hA2,_⟩:=wz w hb2;obtain ⟨_,_⟩:=zf hb2 w1.heap.size;clear hb2)
  | (go_at_call 33;refine (c29 _ (hT10.next bgo)).mono ?_;rintro r w3 ⟨rfl,hb3⟩;obtain ⟨_,_,_,_,hA3,_⟩:=wz w hb3;obtain ⟨_,_⟩:=zf hb3 w1.heap.size;clear hb3))
 exact bodyPost_ret (v:=.tuple #[.string (B T),.int .i64 0]) (by simp only [results,Tryz.results10];go_simp) rfl ⟨rfl,bgo⟩
theorem rwx_k (h0:D≠[]) (h1:D'=D) :
  CB 10 #[.int .i64 n,A4 Bp] w (.tuple #[.string (B T),.int .i64 0]):=by
 subst hc h1
 have hemp:D'.isEmpty=false:=by cases D' with | nil=>exact absurd rfl h0 | cons y ys=>rfl
 clear h0
 have hBt:=B_toList
 have hsm:=cell_set_map
 unfold DV A4 at *
 go_enter Tryz.func10,Tryz.ntmps10
 go_wp2_with (first
  | (go_at_call 21;refine (c21 _).mono ?_;rintro r w1 ⟨rfl,hb1⟩;obtain ⟨_,_,_,_,hA1,_⟩:=wz w hb1;clear hb1)
  | (go_at_call 20;refine (c20 _ _ (nt_at hk (by simp) (by go_simp) (by go_simp) (by go_simp) (by go_simp))).mono ?_;rintro r w2 ⟨rfl,hb2⟩;obtain ⟨_,_,_,_,hA2,_⟩:=wz w hb2;obtain ⟨_,_⟩:=zf hb2 w1.heap.size;clear hb2)
  | (go_at_call 33;refine (c29 _ (hT10.next bgo)).mono ?_;rintro r w3 ⟨rfl,hb3⟩;obtain ⟨_,_,_,_,hA3,_⟩:=wz w hb3;obtain ⟨_,_⟩:=zf hb3 w1.heap.size;clear hb3))
 exact bodyPost_ret (v:=.tuple #[.string (B T),.int .i64 0]) (by simp only [results,Tryz.results10];go_simp) rfl ⟨rfl,bgo⟩
end
def dwT (n:Int) (Bp:Nat):List UInt8:=if goodD n Bp then xtT (vM (fD n) Bp) else []
theorem rwr16 (n:Int) (Bp:Nat) (w:World) (hB:Bp<2^256) (hT10:Tb10 w) :
  CB 10 #[.int .i64 n,A4 Bp] w (.tuple #[.string (B (dwT n Bp)),.int .i64 (vUE n Bp)]):=by
 have c21:=fun W=>runp14 n Bp W hB
 have hk:=vUD_256 n Bp
 unfold dwT
 by_cases hg:goodD n Bp
 ·have e1:vUE n Bp=0:=if_pos hg
  have e2:vUD n Bp=vM (fD n) Bp:=if_pos hg
  rw [if_pos hg,e1]
  rw [e1] at c21
  have hi:=vM_is (fD_ok n) Bp
  rw [← e2] at hi ⊢
  obtain ⟨m0,m1,l0,l1,lm,j0,j1⟩:=ok_m (fD_ok n)
  generalize vUD n Bp=v at *
  obtain ⟨c,s,g,x,k⟩:=v
  unfold xtT
  dsimp only at *
  by_cases hc:c=1
  ·rw [if_pos hc]
   have hx:-10000<=x/\x<=10000:=by
    rcases hi with ⟨_,_,_,a,b⟩ | ⟨a,_⟩ | ⟨a,_⟩
    ·have a':(fD n).l<=x:=a
     have b':x<=(fD n).l+3*2^(fD n).w-1:=b
     unfold DF.m at *
     omega
    ·exact absurd (hc.symm.trans (show c=2 from a)) (by decide)
    ·exact absurd (hc.symm.trans (show c=3 from a)) (by decide)
   obtain ⟨f1,f2,f3⟩:=dcL_facts hk
   have c20:=fun W v (h:Nt 4 k v W)=>dec_v (by decide) hk h
   by_cases h0:k=0
   ·have eD:wtD k=[48]:=if_pos h0
    rw [eD]
    exact rwx_0 n Bp c s g _ x k w hT10 c21 hc hk (dcL k) [48] _ c20 (fun W hW=>lay_v s [48] x W hW (by omega) (by decide)) (by rw [h0];kernel_rfl) rfl
   ·have eD:wtD k=dcL k:=if_neg h0
    rw [eD]
    have hne:=dcL_ne h0 hk
    have hl:1<=(dcL k).length:=List.length_pos_iff.2 hne
    exact rwx_k n Bp c s g _ x k w hT10 c21 hc hk (dcL k) (dcL k) _ c20 (fun W hW=>lay_v s (dcL k) x W hW (by omega) (by omega)) hne rfl
  ·rw [if_neg hc]
   exact rwx_o n Bp c s g _ x k w hT10 c21 (by simpa using hc) _ (fun W hW=>oth_v c s g x k W hk hW)
 ·have e1:vUE n Bp=1:=if_neg hg
  rw [if_neg hg,e1]
  rw [e1] at c21
  exact rwx_e n Bp _ _ _ _ _ _ w 1 (by decide) c21
end
section
structure DtxC (TT:World->Prop):Prop where
 next:∀ w w',TT w->Below w.heap.size w w'->TT w'
 t10:∀ w,TT w->Tb10 w
 wr:∀ n Bp W,Bp<2^256->TT W->CB 9 #[.int .i64 n,A4 Bp] W (.tuple #[.string (B (dwT n Bp)),.int .i64 (vUE n Bp)])
structure DtxR (TT:World->Prop):Prop where
 rd:∀ n d l W,l.length<10001->TT W->CB 11 #[.int .i64 n,.int .i64 d,.string (B l)] W (.tuple #[A4 (krV n d l),.int .i64 (krF n d l),.int .i64 (krE n d l)])
theorem awk16_T:B (dwT 10 573571232)=⟨#[49,46,50,48,101,48]⟩/\vUE 10 573571232=0:=⟨by kernel_rfl,by kernel_rfl⟩
theorem awk16_W:W4 573571232 0=573571232/\W4 573571232 1=0/\W4 573571232 2=0/\W4 573571232 3=0:=⟨by decide,by decide,by decide,by decide⟩
attribute [local irreducible] W4
theorem awake16 {TT:World->Prop} (h:DtxC TT) (w:World) (hT:TT w):CB 8 #[] w (.bool true):=by
 have c9:=fun W hW=>h.wr 10 573571232 W (by decide) hW
 obtain ⟨e1,e2⟩:=awk16_T
 obtain ⟨w0,w1,w2,w3⟩:=awk16_W
 rw [e1,e2] at c9
 unfold A4 at c9
 rw [w0,w1,w2,w3] at c9
 go_enter Tryz.func8,Tryz.ntmps8
 go_wp2_with (go_at_call 9;refine (c9 _ hT).mono ?_;rintro r w1 ⟨rfl,hb1⟩)
 go_ret
 exact ⟨by first | rfl | simp,hb1⟩
section
variable (TT:World->Prop) (hTT:∀ w w',TT w->Below w.heap.size w w'->TT w') (w:World) (hT:TT w)
 (c8:∀ W,TT W->CB 8 #[] W (.bool true))
include hTT hT c8
theorem wr16_w (n:Int) (Bp:Nat) (T:ByteArray) (E:Int)
  (c9:∀ W,TT W->CB 9 #[.int .i64 n,A4 Bp] W (.tuple #[.string T,.int .i64 E]))
  (c10:∀ W,TT W->CB 10 #[.int .i64 n,A4 Bp] W (.tuple #[.string T,.int .i64 E])) :
  CB 3 #[.int .i64 n,A4 Bp] w (.bool true):=by
 have hsm:=cell_set_map
 unfold A4 at *
 go_enter Tryz.func3,Tryz.ntmps3
 go_wp2_with (first
  | (go_at_call 8;refine (c8 _ (hTT _ _ hT bgo)).mono ?_;rintro r w1 ⟨rfl,hb1⟩;obtain ⟨_,_,_,_,hA1,_⟩:=wz w hb1;clear hb1)
  | (go_at_call 9;refine (c9 _ (hTT _ _ hT bgo)).mono ?_;rintro r w2 ⟨rfl,hb2⟩;obtain ⟨_,_,_,_,hA2,_⟩:=wz w hb2;clear hb2)
  | (go_at_call 10;refine (c10 _ (hTT _ _ hT bgo)).mono ?_;rintro r w3 ⟨rfl,hb3⟩;obtain ⟨_,_,_,_,hA3,_⟩:=wz w hb3;clear hb3))
 go_ret
 exact ⟨by first | rfl | simp,bgo⟩
variable (n d:Int) (bs:ByteArray) (pc px:Int) (ps pg:Bool) (pd:ByteArray)
end
theorem writes16_v {TT:World->Prop} (h:DtxC TT) (n:Int) (Bp:Nat) (w:World) (hT:TT w) (hB:Bp<2^256) :
  CB 3 #[.int .i64 n,A4 Bp] w (.bool true) :=
 wr16_w TT h.next w hT (fun W hW=>awake16 h W hW) n Bp _ _ (fun W hW=>h.wr n Bp W hB hW) (fun W hW=>rwr16 n Bp W hB (h.t10 W hW))
end
section
theorem kr_back {n d:Int} {Bp:Nat} (hg:goodD n Bp) (hd:knB d):krE n d (dwT n Bp)=0/\krV n d (dwT n Bp)=vCV n Bp/\krF n d (dwT n Bp)=0/\(dwT n Bp).length<=3001:=by
 have hi:=vM_is (fD_ok n) Bp
 have eT:dwT n Bp=xtT (vM (fD n) Bp):=if_pos hg
 obtain ⟨c1,c2⟩:=xt_cut (fD_ok n) hi
 have hj:=cut_jn c1 c2
 have hgd:=gd_of_jn hj
 have hE:cutE (xtT (vM (fD n) Bp))=0:=by
  unfold cutE
  rw [if_neg (by omega),c1];rfl
 have hV:cutV (xtT (vM (fD n) Bp))=xtP (vM (fD n) Bp):=by unfold cutV;rw [c1];rfl
 have hk:kmE n d (xtP (vM (fD n) Bp))=0:=by unfold kmE;rw [if_pos ⟨hg.1,hd⟩,if_pos hgd]
 have hr:krE n d (xtT (vM (fD n) Bp))=0:=by unfold krE;rw [if_pos ⟨hg.1,hd⟩,if_pos hE,hV,hk]
 obtain ⟨b1,b2⟩:=dm_back hg.1 hd hi
 rw [eT]
 refine ⟨hr,?_,?_,c2⟩
 ·unfold krV kmV
  rw [if_pos hr,hV,if_pos hk,b1]
  unfold vPV vCV
  rw [if_pos ⟨hg.1,hi⟩,if_pos hg]
 ·unfold krF kmF
  rw [if_pos hr,hV,if_pos hk,b2]
attribute [local irreducible] W4
section
variable (TT:World->Prop) (hTT:∀ w w',TT w->Below w.heap.size w w'->TT w') (w:World) (hT:TT w)
 (c8:∀ W,TT W->CB 8 #[] W (.bool true))
variable (n:Int) (Bp:Nat)
include hTT hT c8
theorem bk16_e (E:Int) (hE:(E != 0)=true)
  (c9:∀ W,TT W->CB 9 #[.int .i64 n,A4 Bp] W (.tuple #[.string ⟨#[]⟩,.int .i64 E]))
  (c15:∀ W,CB 15 #[.int .i64 n,A4 Bp] W (.bool false)) :
  CB 5 #[.int .i64 n,A4 Bp] w (.bool true):=by
 have hsm:=cell_set_map
 unfold A4 at *
 go_enter Tryz.func5,Tryz.ntmps5
 go_wp2_with (first
  | (go_at_call 8;refine (c8 _ (hTT _ _ hT bgo)).mono ?_;rintro r w1 ⟨rfl,hb1⟩;obtain ⟨_,_,_,_,hA1,_⟩:=wz w hb1;clear hb1)
  | (go_at_call 9;refine (c9 _ (hTT _ _ hT bgo)).mono ?_;rintro r w2 ⟨rfl,hb2⟩;obtain ⟨_,_,_,_,hA2,_⟩:=wz w hb2;clear hb2)
  | (go_at_call 15;refine (c15 _).mono ?_;rintro r w3 ⟨rfl,hb3⟩;obtain ⟨_,_,_,_,hA3,_⟩:=wz w hb3;clear hb3))
 go_ret
 exact ⟨by first | rfl | simp,bgo⟩
theorem bk16_k (T:ByteArray) (C:Nat)
  (c9:∀ W,TT W->CB 9 #[.int .i64 n,A4 Bp] W (.tuple #[.string T,.int .i64 0]))
  (c16:∀ W,CB 16 #[.int .i64 n,A4 Bp] W (.tuple #[A4 C,.int .i64 0]))
  (c11:∀ (j:Nat) W,j<5->TT W->CB 11 #[.int .i64 n,.int .i64 (j:Int),.string T] W (.tuple #[A4 C,.int .i64 0,.int .i64 0])) :
  CB 5 #[.int .i64 n,A4 Bp] w (.bool true):=by
 have hsm:=cell_set_map
 have e1:=eq24 (W4 C 0) (W4 C 1) (W4 C 2) (W4 C 3) (W4 C 0) (W4 C 1) (W4 C 2) (W4 C 3)
 rw [decide_eq_true ⟨rfl,rfl,rfl,rfl⟩] at e1
 unfold A4 at *
 go_enter Tryz.func5,Tryz.ntmps5
 go_wp2_with (first
  | (go_at_call 8;refine (c8 _ (hTT _ _ hT bgo)).mono ?_;rintro r w1 ⟨rfl,hb1⟩;obtain ⟨_,_,_,_,hA1,_⟩:=wz w hb1;clear hb1)
  | (go_at_call 9;refine (c9 _ (hTT _ _ hT bgo)).mono ?_;rintro r w2 ⟨rfl,hb2⟩;obtain ⟨_,_,_,_,hA2,_⟩:=wz w hb2;clear hb2)
  | (go_at_call 16;refine (c16 _).mono ?_;rintro r w3 ⟨rfl,hb3⟩;obtain ⟨_,_,_,_,hA3,_⟩:=wz w hb3;clear hb3))
 go_loopw [37] (fun t37 wr=>∃ j:Nat,j<=5/\t37=.int .i64 (j:Int)/\Below w.heap.size w wr/\w3.heap.size<wr.heap.size/\wr.cell? ⟨w3.heap.size,0,none⟩=some (.int .u64 (W4 C 0))/\wr.cell? ⟨w3.heap.size,1,none⟩=some (.int .u64 (W4 C 1))/\wr.cell? ⟨w3.heap.size,2,none⟩=some (.int .u64 (W4 C 2))/\wr.cell? ⟨w3.heap.size,3,none⟩=some (.int .u64 (W4 C 3))) (fun t37 _=>5-(intOf t37).toNat)
 case atStart=>exact ⟨0,by decide,rfl,bgo,by simp,by go_simp,by go_simp,by go_simp,by go_simp⟩
 case round =>
  obtain ⟨j,hj,rfl,hA0,hl0,k0,k1,k2,k3⟩:=hrel
  have hs0:=hA0.size
  by_cases h5:j<5
  ·have c11j:=fun W hW=>c11 j W h5 hW
   have hji:(j:Int)<5:=by omega
   go_wp2_with (first
    | (go_at_call 11;refine (c11j _ (hTT _ _ hT bgo)).mono ?_;rintro r w4 ⟨rfl,hb4⟩;obtain ⟨_,_,_,_,hA4,_⟩:=wz w hb4 w3.heap.size;clear hb4))
   go_roundw
   case rel=>exact ⟨j+1,by omega,by go_num,bgo,by simp;omega,by go_simp,by go_simp,by go_simp,by go_simp⟩
   case measure=>simp [intOf];omega
  ·have hji:¬ (j:Int)<5:=by omega
   go_wp2
   go_ret
   exact ⟨rfl,bgo⟩
end
theorem back16_v {TT:World->Prop} (h:DtxC TT) (hR:DtxR TT) (n:Int) (Bp:Nat) (w:World) (hT:TT w) (hB:Bp<2^256) :
  CB 5 #[.int .i64 n,A4 Bp] w (.bool true):=by
 have c8:=fun W hW=>awake16 h W hW
 have c9:=fun W hW=>h.wr n Bp W hB hW
 by_cases hg:goodD n Bp
 ·have e0:vUE n Bp=0:=if_pos hg
  rw [e0] at c9
  have c16:=fun W=>rcan14 n Bp W hB
  rw [e0] at c16
  refine bk16_k TT h.next w hT c8 n Bp _ _ c9 c16 fun j W hj hW=>?_
  obtain ⟨k1,k2,k3,k4⟩:=kr_back (d:=(j:Int)) hg (by unfold knB;omega)
  have c11:=hR.rd n (j:Int) (dwT n Bp) W (by omega) hW
  rw [k1,k2,k3] at c11
  exact c11
 ·have e0:vUE n Bp=1:=if_neg hg
  have eT:dwT n Bp=[]:=if_neg hg
  rw [e0,eT] at c9
  have c15:=fun W=>rgood14 n Bp hB W
  rw [decide_eq_false hg] at c15
  exact bk16_e TT h.next w hT c8 n Bp 1 (by decide) c9 c15
end
section
def TUD (A B:Nat) (v:Value) (w:World):Prop:=∃ q r,v=.tuple #[q,r]/\NT 7000 A q w/\NT 7000 B r w
theorem TUD.next {A B:Nat} {v:Value} {w w':World} (h:TUD A B v w) (hb:Below w.heap.size w w'):TUD A B v w':=by
 obtain ⟨q,r,e,hq,hr⟩:=h
 exact ⟨q,r,e,hq.next hb,hr.next hb⟩
attribute [local irreducible] W4 Nt NT
section
variable {a:Act} {w:World} {K:Act->World->Prop} {Q:Exit->Act->World->Prop} {d p q:Nat} {ty:TypeId} {pos:String} {after:Array Edge} {gd:Option (Nat×Bool)}
end
end
section
theorem D8.other {g h:Nat} {cs:Array Value} {vs:List Value} {w:World} (hD:D8 h cs w) (hne:g≠h):D8 h cs (w.setCells g 0 vs):=by
 refine ⟨Nat.lt_of_lt_of_le hD.1 (below_cellsD (n:=0) (Nat.zero_le _) _ _ _ (Below.refl 0 w)).size,hD.2.1,fun i hi=>?_,fun i=>?_⟩
 ·rw [World.cell?_setCells_out g vs 0 w ⟨h,i,none⟩ (fun e=>absurd e.symm hne)]
  exact hD.2.2.1 i hi
 ·rw [World.frozen?_setCells];exact hD.2.2.2 i
attribute [local irreducible] W4 Nt NT
section
variable {a:Act} {w:World} {K:Act->World->Prop} {Q:Exit->Act->World->Prop} {d p q:Nat} {ty:TypeId} {pos:String} {after:Array Edge} {gd:Option (Nat×Bool)}
end
def M14 (ws:World) (cv:Array Value) (L:Nat->Prop) (f:Nat->Value) (w:World):Prop :=
 Below ws.heap.size ws w/\(L 4->∃ g cs,f 17=.pointer (some ⟨g,0,none⟩)/\ws.heap.size<=g/\D8 g cs w/\(L 6->cs=cv))/\(L 5->∃ h cs,f 18=.pointer (some ⟨h,0,none⟩)/\ws.heap.size<=h/\D8 h cs w)/\(L 4->L 5->f 17≠f 18)
theorem M14.step {ws w:World} {cv:Array Value} {k t:Nat} {L:Nat->Prop} {f:Nat->Value} {v:Value} (h:M14 ws cv L f w) (h1:t≠17) (h2:t≠18) (h3:k≠4) (h4:k≠5) (h5:k≠6):M14 ws cv (fun j=>L j∨j=k) (fun u=>if some t=some u then v else f u) w:=by
 obtain ⟨a1,a2,a3,a4⟩:=h
 have e17:(if some t=some 17 then v else f 17)=f 17:=if_neg (fun e=>h1 (Option.some.inj e))
 have e18:(if some t=some 18 then v else f 18)=f 18:=if_neg (fun e=>h2 (Option.some.inj e))
 refine ⟨a1,fun h=>?_,fun h=>?_,fun h h'=>?_⟩
 ·obtain ⟨g,cs,b1,b2,b3,b4⟩:=a2 (h.resolve_right (fun e=>h3 e.symm))
  exact ⟨g,cs,e17.trans b1,b2,b3,fun h=>b4 (h.resolve_right (fun e=>h5 e.symm))⟩
 ·obtain ⟨g,cs,b1,b2,b3⟩:=a3 (h.resolve_right (fun e=>h4 e.symm))
  exact ⟨g,cs,e18.trans b1,b2,b3⟩
 ·show (if some t=some 17 then v else f 17)≠(if some t=some 18 then v else f 18)
  rw [e17,e18]
  exact a4 (h.resolve_right (fun e=>h3 e.symm)) (h'.resolve_right (fun e=>h4 e.symm))
end
end Go.Proofs.YtpabnhlfbjkmaaaGreatDoor
