/-
  Texts that the proof leans on.
-/
import Derived.Test.YtgknbdehlmlipaaGreatDoorJ2
import Derived.Test.YtgknbdehlmlipaaGreatDoorJ39
import Derived.Test.YtgknbdehlmlipaaGreatDoorJ42
import Derived.Test.YtgknbdehlmlipaaGreatDoorJ40
import Derived.Test.YtgknbdehlmlipaaGreatDoorJ43
import Derived.Test.YtgknbdehlmlipaaGreatDoorJ26
import Derived.Test.YtgknbdehlmlipaaGreatDoorJ21
import Derived.Test.YtgknbdehlmlipaaGreatDoorJ32
import Derived.Test.YtgknbdehlmlipaaGreatDoorJ20
import Derived.Test.YtgknbdehlmlipaaGreatDoorJ17
import Derived.Test.YtgknbdehlmlipaaGreatDoorJ41
import Derived.Test.YtgknbdehlmlipaaGreatDoorJ24
import Derived.Test.YtgknbdehlmlipaaGreatDoorJ31
import Derived.Test.YtgknbdehlmlipaaGreatDoorJ34
set_option linter.unusedVariables false
set_option linter.unusedSectionVars false
set_option linter.unusedSimpArgs false
set_option maxHeartbeats 8000000
set_option maxRecDepth 20000
namespace Go.Proofs.YtgknbdehlmlipaaGreatDoor
open Go.RowKit
structure VC (n:Int) (B:Nat):Prop where
 cO:∀ W,CB 20 #[.int .i64 n] W (.tuple #[IDec n (nameN n) (((fD n).t+((fD n).w+6):Nat):Int) (3*((fD n).j:Int)+1) (expN n) (fD n).l ((fD n).l+3*2^(fD n).w-1) (3*((fD n).j:Int)) (fD n).dn,.int .i64 0])
 cS:∀ W,CB 62 #[IDec n (nameN n) (((fD n).t+((fD n).w+6):Nat):Int) (3*((fD n).j:Int)+1) (expN n) (fD n).l ((fD n).l+3*2^(fD n).w-1) (3*((fD n).j:Int)) (fD n).dn] W (.tuple #[.int .i64 (((fD n).w:Int)+5),.int .i64 ((fD n).t:Int),.int .i64 ((fD n).j:Int)])
 cF1:∀ W,CE 52 #[A4 B,.int .i64 ((fD n).t:Int),.int .i64 (((fD n).w:Int)+5)] W (NT 19 (vG (fD n) B))
 cF2:∀ W,CE 52 #[A4 B,.int .i64 0,.int .i64 ((fD n).t:Int)] W (NT 19 (vR (fD n) B))
 cF3:∀ W,CE 52 #[A4 B,.int .i64 (((fD n).t:Int)+(((fD n).w:Int)+5)),.int .i64 1] W (NT 19 (B/2^((fD n).t+((fD n).w+5))%2))
 cM1:∀ W v,NT 19 (vG (fD n) B) v W->CQ 53 #[v] W (.int .i64 (vG (fD n) B:Int))
 cM3:∀ W v,NT 19 (B/2^((fD n).t+((fD n).w+5))%2) v W->CQ 53 #[v] W (.int .i64 ((B/2^((fD n).t+((fD n).w+5))%2:Nat):Int))
 cB2:∀ W v,NT 19 (vR (fD n) B) v W->CB 28 #[v] W (A4 (vR (fD n) B))
 hAb:(vG (fD n) B:Int)<=200000
 hV:(vG (fD n) B:Int)/2^(fD n).w=((vV (fD n).w (vG (fD n) B):Nat):Int)
 hV1:vV (fD n).w (vG (fD n) B)<=31
 hsg:(((B/2^((fD n).t+((fD n).w+5))%2:Nat):Int)==1)=vS (fD n) B
theorem g_lim {f:DF}(h:f.ok)(B:Nat):vG f B<131072:=by
 have:=vG_lt f B
 rcases h with ⟨h1,h2,h3,h4⟩|⟨h1,h2,h3,h4⟩|⟨h1,h2,h3,h4⟩<;>rw [h2] at this<;>simp only [Nat.reducePow,Nat.reduceAdd] at this<;>omega
theorem vc_of {n:Int}(h:decN n)(B:Nat)(hB:B<2^256):VC n B:=by
 have ho:=fD_ok n
 obtain ⟨w6,w12,t20,t110,j2,j11,t64,l0,l1,H0,H1⟩:=ok_bounds ho
 have hg:=g_lim ho B
 refine ⟨fun W=>rof_dec h W,fun W=>dec_shape h _ _ _ _ _ _ W,fun W=>?_,fun W=>?_,fun W=>?_,fun W v hv=>?_,fun W v hv=>?_,fun W v hv=>bits_nv hv.nv,by omega,?_,?_,?_⟩
 ·have:=field_any B (fD n).t ((fD n).w+5) W hB (by omega) (by omega)
  rw [show (((fD n).w+5:Nat):Int)=((fD n).w:Int)+5 by omega] at this
  exact this
 ·have:=field_any B 0 (fD n).t W hB (by decide) (by omega)
  rw [Nat.pow_zero,Nat.div_one] at this
  exact this
 ·have:=field_any B ((fD n).t+((fD n).w+5)) 1 W hB (by omega) (by decide)
  rw [show (((fD n).t+((fD n).w+5):Nat):Int)=((fD n).t:Int)+(((fD n).w:Int)+5) by omega,Nat.pow_one] at this
  exact this
 ·exact (number_wide hv.nv (by decide) (by omega)).mono fun r w' ⟨e1,e2⟩=>⟨e1,e2.symm⟩
 ·exact (number_wide hv.nv (by decide) (by omega)).mono fun r w' ⟨e1,e2⟩=>⟨e1,e2.symm⟩
 ·unfold vV
  rw [← powCast,Int.natCast_ediv]
 ·have:=vG_lt (fD n) B
  rw [Nat.pow_add] at this
  unfold vV
  have:vG (fD n) B/2^(fD n).w<32:=by rw [Nat.div_lt_iff_lt_mul (Nat.two_pow_pos _),Nat.mul_comm];exact this
  omega
 ·unfold vS
  rw [Bool.eq_iff_iff]
  simp only [beq_iff_eq,decide_eq_true_eq]
  omega
theorem cU_of {n:Int}(B:Nat):∀ W,CB 109 #[A4 (vR (fD n) B),.int .i64 ((fD n).j:Int)] W (.tuple #[A4 (dlU (fD n).j (vR (fD n) B)),.int .i64 0]):=fun W=>by
 have ho:=fD_ok n
 obtain ⟨w6,w12,t20,t110,j2,j11,t64,l0,l1,H0,H1⟩:=ok_bounds ho
 have hr:=vR_lt (fD n) B
 have p2:=p_200 (a:=(fD n).t) (by omega)
 have p3:(2:Nat)^220<2^256:=by decide
 have:=rupk_any (vR (fD n) B) ((fD n).j:Int) W (by omega)
 have c1:(0:Int)<=((fD n).j:Int)/\((fD n).j:Int)<=11:=by omega
 rw [ho.pt] at hr
 unfold dUv dUe at this
 rw [if_pos c1,if_pos c1,Int.toNat_natCast,if_pos hr,if_pos hr] at this
 exact this
theorem vmean_s {n:Int}(h:decN n)(B:Nat)(w:World)(hB:B<2^256)(h30:vV (fD n).w (vG (fD n) B)=30∨vV (fD n).w (vG (fD n) B)=31) :
  Calls Tryz.prog 80 #[.int .i64 n,A4 B] w fun r w'=>r=.returned (vM (fD n) B).v/\Below w.heap.size w w':=by
 have ho:=fD_ok n
 obtain ⟨w6,w12,t20,t110,j2,j11,t64,l0,l1,H0,H1⟩:=ok_bounds ho
 have C:=vc_of h B hB
 have hg:=g_lim ho B
 have hr:=vR_lt (fD n) B
 have p2:=p_200 (a:=(fD n).t) (by omega)
 have p3:(2:Nat)^220<2^256:=by decide
 unfold vM vD
 by_cases e30:vV (fD n).w (vG (fD n) B)=30
 ·rw [if_pos e30]
  have:=vmn_i n _ _ _ _ _ _ _ _ _ _ B _ _ _ _ _ (fD n).w w (by omega) (by omega) (by omega) (by omega) (by omega) (by omega) C.hAb C.cF1 C.cF2 C.cF3 C.cM1 C.cM3 C.cB2 (by omega) w12 C.hV (by omega) (by have:=C.hV1;omega) C.hsg _ C.cO C.cS (by rw [e30];rfl)
  rw [show (Dat.mk 2 (vS (fD n) B) false 0 0).v=.agg #[.int .i64 2,.bool (vS (fD n) B),.bool false,.int .i64 0,.int .u64 0,.int .u64 0,.int .u64 0,.int .u64 0] by unfold Dat.v DV;simp only [W4_zero]]
  exact this
 ·have e31:vV (fD n).w (vG (fD n) B)=31:=by omega
  rw [if_neg e30,if_pos e31]
  have hgg:(bits .and .u64 ((vG (fD n) B:Int)/2^((fD n).w-1)) 1==1)=decide (vG (fD n) B/2^((fD n).w-1)%2=1):=by
   have hle:vG (fD n) B/2^((fD n).w-1)<=vG (fD n) B:=Nat.div_le_self _ _
   have:=and_lay (vG (fD n) B/2^((fD n).w-1)) 1 (by decide) (by omega)
   rw [Int.natCast_ediv,powCast] at this
   rw [show (((2^1:Nat):Int)-1)=1 by decide] at this
   rw [this,Nat.pow_one,Bool.eq_iff_iff]
   simp only [beq_iff_eq,decide_eq_true_eq]
   omega
  have b30:(((vV (fD n).w (vG (fD n) B):Nat):Int)==30)=false:=by rw [e31];rfl
  have b31:(((vV (fD n).w (vG (fD n) B):Nat):Int)==31)=true:=by rw [e31];rfl
  have cO:=C.cO
  have cS:=C.cS
  cases hdn:(fD n).dn
  ·rw [hdn] at cO cS
   have eT:vT (fD n) (vR (fD n) B)=vR (fD n) B:=by unfold vT;rw [hdn];rfl
   rw [eT]
   have cW:=fun W=>rbelowt (vR (fD n) B) (3*(fD n).j) W (by omega) (by omega)
   rw [show ((3*(fD n).j:Nat):Int)=3*((fD n).j:Int) by omega] at cW
   by_cases hlt:vR (fD n) B<10^(3*(fD n).j)
   ·rw [decide_eq_true hlt] at cW
    rw [if_pos hlt]
    exact vmn_nfy n _ _ _ _ _ _ _ _ _ _ B _ _ _ _ _ (fD n).w w (by omega) (by omega) (by omega) (by omega) (by omega) (by omega) C.hAb C.cF1 C.cF2 C.cF3 C.cM1 C.cM3 C.cB2 (by omega) w12 C.hV (by omega) (by have:=C.hV1;omega) C.hsg ((fD n).w-1) _ cO cS b30 b31 (by omega) (by omega) hgg cW
   ·rw [decide_eq_false hlt] at cW
    rw [if_neg hlt]
    have:=vmn_nfn n _ _ _ _ _ _ _ _ _ _ B _ _ _ _ _ (fD n).w w (by omega) (by omega) (by omega) (by omega) (by omega) (by omega) C.hAb C.cF1 C.cF2 C.cF3 C.cM1 C.cM3 C.cB2 (by omega) w12 C.hV (by omega) (by have:=C.hV1;omega) C.hsg ((fD n).w-1) _ cO cS b30 b31 (by omega) (by omega) hgg cW
    rw [show (Dat.mk 3 (vS (fD n) B) (decide (vG (fD n) B/2^((fD n).w-1)%2=1)) 0 0).v=.agg #[.int .i64 3,.bool (vS (fD n) B),.bool (decide (vG (fD n) B/2^((fD n).w-1)%2=1)),.int .i64 0,.int .u64 0,.int .u64 0,.int .u64 0,.int .u64 0] by unfold Dat.v DV;simp only [W4_zero]]
    exact this
  ·rw [hdn] at cO cS
   have eT:vT (fD n) (vR (fD n) B)=dlU (fD n).j (vR (fD n) B):=by unfold vT;rw [hdn];rfl
   have hlt:dlU (fD n).j (vR (fD n) B)<10^(3*(fD n).j):=by rw [ten3];exact dlU_lt _ _
   rw [eT,if_pos hlt]
   have hU:=dlU_256 (fD n).j (vR (fD n) B) j11
   have cW:=fun W=>rbelowt (dlU (fD n).j (vR (fD n) B)) (3*(fD n).j) W hU (by omega)
   rw [show ((3*(fD n).j:Nat):Int)=3*((fD n).j:Int) by omega,decide_eq_true hlt] at cW
   exact vmn_nty n _ _ _ _ _ _ _ _ _ _ B _ _ _ _ _ (fD n).w w (by omega) (by omega) (by omega) (by omega) (by omega) (by omega) C.hAb C.cF1 C.cF2 C.cF3 C.cM1 C.cM3 C.cB2 (by omega) w12 C.hV (by omega) (by have:=C.hV1;omega) C.hsg ((fD n).w-1) _ _ cO cS b30 b31 (by omega) (by omega) hgg (cU_of B) cW
theorem sgn_below {A B:Nat}(h:A<B):¬ (0:Int)<=sgn (A:Int) (B:Int):=by
 rcases sgn_ways (A:Int) (B:Int) with ⟨a,e⟩|⟨a,e⟩|⟨a,e⟩<;>omega
theorem sgn_above {A B:Nat}(h:¬ A<B):(0:Int)<=sgn (A:Int) (B:Int):=by
 rcases sgn_ways (A:Int) (B:Int) with ⟨a,e⟩|⟨a,e⟩|⟨a,e⟩<;>omega
theorem vmean_d {n:Int}(h:decN n)(hdn:(fD n).dn=true)(B:Nat)(w:World)(hB:B<2^256)(h30:vV (fD n).w (vG (fD n) B)≠30)(h31:vV (fD n).w (vG (fD n) B)≠31) :
  Calls Tryz.prog 80 #[.int .i64 n,A4 B] w fun r w'=>r=.returned (vM (fD n) B).v/\Below w.heap.size w w':=by
 have ho:=fD_ok n
 obtain ⟨w6,w12,t20,t110,j2,j11,t64,l0,l1,H0,H1⟩:=ok_bounds ho
 have Cc:=vc_of h B hB
 have hg:=g_lim ho B
 have hr:=vR_lt (fD n) B
 have p2:=p_200 (a:=(fD n).t) (by omega)
 have p3:(2:Nat)^220<2^256:=by decide
 have cO:=Cc.cO
 have cS:=Cc.cS
 rw [hdn] at cO cS
 have b30:(((vV (fD n).w (vG (fD n) B):Nat):Int)==30)=false:=by rw [beq_eq_false_iff_ne];omega
 have b31:(((vV (fD n).w (vG (fD n) B):Nat):Int)==31)=false:=by rw [beq_eq_false_iff_ne];omega
 have hH:(2:Int)^(fD n).w=((2^(fD n).w:Nat):Int):=(powCast _).symm
 have hV1:=Cc.hV1
 have hVe:=Cc.hV
 have hvv:vV (fD n).w (vG (fD n) B)=vG (fD n) B/2^(fD n).w:=rfl
 have hlow:vG (fD n) B%2^(fD n).w<2^(fD n).w:=Nat.mod_lt _ (Nat.two_pow_pos _)
 have cQ:∀ W,CE 26 #[.int .u64 10,.int .i64 (3*((fD n).j:Int)+1)] W (NV 50000 (10^(3*(fD n).j+1))):=fun W=>by
  have:=rpowt_nv (3*(fD n).j+1) W (by omega)
  rw [show ((3*(fD n).j+1:Nat):Int)=3*((fD n).j:Int)+1 by omega] at this
  exact this
 have hU:=dlU_256 (fD n).j (vR (fD n) B) j11
 have hUt:dlU (fD n).j (vR (fD n) B)<10^(3*(fD n).j):=by rw [ten3];exact dlU_lt _ _
 have cU:=cU_of (n:=n) B
 have hL:=and_lay (vG (fD n) B) (fD n).w (by omega) (by omega)
 have cP:∀ W,CE 26 #[.int .u64 10,.int .i64 (3*((fD n).j:Int))] W (NV 50000 (10^(3*(fD n).j))):=fun W=>by
  have:=rpowt_nv (3*(fD n).j) W (by omega)
  rw [show ((3*(fD n).j:Nat):Int)=3*((fD n).j:Int) by omega] at this
  exact this
 have eM:vM (fD n) B=⟨1,vS (fD n) B,false,(vF true (fD n).w (vG (fD n) B):Int)+(fD n).l,vL true (fD n).w (vG (fD n) B)*10^(3*(fD n).j)+dlU (fD n).j (vR (fD n) B)⟩:=by
  have hq:vQ (fD n)=10^(3*(fD n).j):=by unfold vQ;rw [hdn];rfl
  have ht:vT (fD n) (vR (fD n) B)=dlU (fD n).j (vR (fD n) B):=by unfold vT;rw [hdn];rfl
  unfold vM vD
  rw [if_neg h30,if_neg h31,hdn,hq,ht,if_pos]
  have h9:vL true (fD n).w (vG (fD n) B)<=9:=by unfold vL;simp only [if_true];split<;>omega
  have:=Nat.mul_le_mul_right (10^(3*(fD n).j)) h9
  rw [Nat.pow_succ]
  omega
 have hClt:vL true (fD n).w (vG (fD n) B)*10^(3*(fD n).j)+dlU (fD n).j (vR (fD n) B)<10^(3*(fD n).j+1):=by
  have h9:vL true (fD n).w (vG (fD n) B)<=9:=by unfold vL;simp only [if_true];split<;>omega
  have:=Nat.mul_le_mul_right (10^(3*(fD n).j)) h9
  rw [Nat.pow_succ]
  omega
 rw [eM]
 generalize vV (fD n).w (vG (fD n) B)=V at *
 have hF0:∀ q,q<=2->q*2^(fD n).w<=2*4096:=fun q hq=>Nat.mul_le_mul hq H1
 by_cases h24:V<24
 ·have eF:vF true (fD n).w (vG (fD n) B)=V/8*2^(fD n).w+vG (fD n) B%2^(fD n).w:=by unfold vF vV;simp only [if_true];rw [← hvv,if_pos h24]
  have eL:vL true (fD n).w (vG (fD n) B)=V%8:=by unfold vL vV;simp only [if_true];rw [← hvv,if_pos h24]
  rw [eF,eL]
  rw [eL] at hClt
  have q8:=hF0 (V/8) (by omega)
  have o1:=or_lay (V/8) (vG (fD n) B%2^(fD n).w) (fD n).w hlow (by omega)
  rw [Int.natCast_mul] at o1
  have o2:=and_lay V 3 (by decide) (by omega)
  rw [show (((2^3:Nat):Int)-1)=7 by decide,show V%2^3=V%8 from rfl] at o2
  exact vmn_ds n _ _ _ _ _ _ _ _ _ _ B _ _ _ _ _ (fD n).w w (by omega) (by omega) (by omega) (by omega) (by omega) (by omega) Cc.hAb Cc.cF1 Cc.cF2 Cc.cF3 Cc.cM1 Cc.cM3 Cc.cB2 (by omega) w12 hVe (by omega) (by omega) Cc.hsg _ _ _ _ hH (by omega) (by omega) (by omega) (by omega) (by omega) (by omega) (by omega) (by omega) ((V/8:Nat):Int) 0 0 _ (dlU (fD n).j (vR (fD n) B)) (10^(3*(fD n).j)) (V%8*10^(3*(fD n).j)) (V%8*10^(3*(fD n).j)+dlU (fD n).j (vR (fD n) B)) (10^(3*(fD n).j+1)) (V%8) cO cS b30 b31 (by omega) cU hU hL (by rw [← Int.natCast_mul];omega) (by rw [← Int.natCast_mul];omega) o1 (by omega) o2 cP (fun W v v' h1 h2=>(rtimes_nt (by decide) (by decide) h1 h2).mono fun r w' ⟨v,e1,e2,e3⟩=>⟨v,e1,e2.more (by decide),e3⟩) (fun W v v' h1 h2=>(radd_nv (by decide) (by decide) h1.nv h2).mono fun r w' ⟨v,e1,e2,e3⟩=>⟨v,e1,e2.more (by decide),e3⟩) rfl cQ (fun W v v' h1 h2=>rcmp_nv (by decide) (by decide) h1 h2) (sgn_below hClt) (fun W v hv=>bits_nv hv)
 ·have eF:vF true (fD n).w (vG (fD n) B)=V/2%4*2^(fD n).w+vG (fD n) B%2^(fD n).w:=by unfold vF vV;simp only [if_true];rw [← hvv,if_neg h24]
  have eL:vL true (fD n).w (vG (fD n) B)=8+V%2:=by unfold vL vV;simp only [if_true];rw [← hvv,if_neg h24]
  rw [eF,eL]
  rw [eL] at hClt
  have q8:=hF0 (V/2%4) (by omega)
  have o1:=or_lay (V/2%4) (vG (fD n) B%2^(fD n).w) (fD n).w hlow (by omega)
  rw [Int.natCast_mul] at o1
  have o2:=and_lay (V/2) 2 (by decide) (by omega)
  rw [show (((2^2:Nat):Int)-1)=3 by decide,show V/2%2^2=V/2%4 from rfl,show ((V/2:Nat):Int)=(V:Int)/2 by omega] at o2
  have o3:=and_lay V 1 (by decide) (by omega)
  rw [show (((2^1:Nat):Int)-1)=1 by decide,show V%2^1=V%2 from rfl] at o3
  exact vmn_db n _ _ _ _ _ _ _ _ _ _ B _ _ _ _ _ (fD n).w w (by omega) (by omega) (by omega) (by omega) (by omega) (by omega) Cc.hAb Cc.cF1 Cc.cF2 Cc.cF3 Cc.cM1 Cc.cM3 Cc.cB2 (by omega) w12 hVe (by omega) (by omega) Cc.hsg _ _ _ ((8+V%2:Nat):Int) hH (by omega) (by omega) (by omega) (by omega) (by omega) (by omega) (by omega) (by omega) ((V/2%4:Nat):Int) ((V%2:Nat):Int) 0 _ (dlU (fD n).j (vR (fD n) B)) (10^(3*(fD n).j)) ((8+V%2)*10^(3*(fD n).j)) ((8+V%2)*10^(3*(fD n).j)+dlU (fD n).j (vR (fD n) B)) (10^(3*(fD n).j+1)) (8+V%2) cO cS b30 b31 (by omega) cU hU hL (by rw [← Int.natCast_mul];omega) (by rw [← Int.natCast_mul];omega) o1 o2 o3 (by omega) (by omega) (by omega) cP (fun W v v' h1 h2=>(rtimes_nt (by decide) (by decide) h1 h2).mono fun r w' ⟨v,e1,e2,e3⟩=>⟨v,e1,e2.more (by decide),e3⟩) (fun W v v' h1 h2=>(radd_nv (by decide) (by decide) h1.nv h2).mono fun r w' ⟨v,e1,e2,e3⟩=>⟨v,e1,e2.more (by decide),e3⟩) rfl cQ (fun W v v' h1 h2=>rcmp_nv (by decide) (by decide) h1 h2) (sgn_below hClt) (fun W v hv=>bits_nv hv)
theorem vmean_p {n:Int}(h:decN n)(hdn:(fD n).dn=false)(B:Nat)(w:World)(hB:B<2^256)(h30:vV (fD n).w (vG (fD n) B)≠30)(h31:vV (fD n).w (vG (fD n) B)≠31) :
  Calls Tryz.prog 80 #[.int .i64 n,A4 B] w fun r w'=>r=.returned (vM (fD n) B).v/\Below w.heap.size w w':=by
 have ho:=fD_ok n
 obtain ⟨w6,w12,t20,t110,j2,j11,t64,l0,l1,H0,H1⟩:=ok_bounds ho
 have Cc:=vc_of h B hB
 have hg:=g_lim ho B
 have hr:=vR_lt (fD n) B
 have p2:=p_200 (a:=(fD n).t) (by omega)
 have p3:(2:Nat)^220<2^256:=by decide
 have cO:=Cc.cO
 have cS:=Cc.cS
 rw [hdn] at cO cS
 have b30:(((vV (fD n).w (vG (fD n) B):Nat):Int)==30)=false:=by rw [beq_eq_false_iff_ne];omega
 have b31:(((vV (fD n).w (vG (fD n) B):Nat):Int)==31)=false:=by rw [beq_eq_false_iff_ne];omega
 have hH:(2:Int)^(fD n).w=((2^(fD n).w:Nat):Int):=(powCast _).symm
 have hV1:=Cc.hV1
 have hVe:=Cc.hV
 have hvv:vV (fD n).w (vG (fD n) B)=vG (fD n) B/2^(fD n).w:=rfl
 have hlow:vG (fD n) B%2^(fD n).w<2^(fD n).w:=Nat.mod_lt _ (Nat.two_pow_pos _)
 have cQ:∀ W,CE 26 #[.int .u64 10,.int .i64 (3*((fD n).j:Int)+1)] W (NV 50000 (10^(3*(fD n).j+1))):=fun W=>by
  have:=rpowt_nv (3*(fD n).j+1) W (by omega)
  rw [show ((3*(fD n).j+1:Nat):Int)=3*((fD n).j:Int)+1 by omega] at this
  exact this
 have hU:vR (fD n) B<2^256:=by omega
 have hgl:=vG_lt (fD n) B
 have w5:2^((fD n).w+5)=32*2^(fD n).w:=by rw [Nat.pow_add,Nat.mul_comm]
 have w2:2^((fD n).w+2)=4*2^(fD n).w:=by rw [Nat.pow_add,Nat.mul_comm]
 have eM:vM (fD n) B=⟨1,vS (fD n) B,false,(vF false (fD n).w (vG (fD n) B):Int)+(fD n).l,if vL false (fD n).w (vG (fD n) B)*2^(fD n).t+vR (fD n) B<10^(3*(fD n).j+1) then vL false (fD n).w (vG (fD n) B)*2^(fD n).t+vR (fD n) B else 0⟩:=by
  have hq:vQ (fD n)=2^(fD n).t:=by unfold vQ;rw [hdn];rfl
  have ht:vT (fD n) (vR (fD n) B)=vR (fD n) B:=by unfold vT;rw [hdn];rfl
  unfold vM vD
  rw [if_neg h30,if_neg h31,hdn,hq,ht]
 rw [eM]
 have hDV:∀ x:Int,(Dat.mk 1 (vS (fD n) B) false x 0).v=.agg #[.int .i64 1,.bool (vS (fD n) B),.bool false,.int .i64 x,.int .u64 0,.int .u64 0,.int .u64 0,.int .u64 0]:=fun x=>by unfold Dat.v DV;simp only [W4_zero]
 generalize vV (fD n).w (vG (fD n) B)=V at *
 by_cases h24:V<24
 ·have eF:vF false (fD n).w (vG (fD n) B)=vG (fD n) B/8:=by unfold vF vV;simp only [Bool.false_eq_true,if_false];rw [← hvv,if_pos h24]
  have eL:vL false (fD n).w (vG (fD n) B)=vG (fD n) B%8:=by unfold vL vV;simp only [Bool.false_eq_true,if_false];rw [← hvv,if_pos h24]
  rw [eF,eL]
  have o2:=and_lay (vG (fD n) B) 3 (by decide) (by omega)
  rw [show (((2^3:Nat):Int)-1)=7 by decide,show vG (fD n) B%2^3=vG (fD n) B%8 from rfl] at o2
  have hF:(vG (fD n) B:Int)/8=((vG (fD n) B/8:Nat):Int):=by omega
  by_cases hlt:vG (fD n) B%8*2^(fD n).t+vR (fD n) B<10^(3*(fD n).j+1)
  ·rw [if_pos hlt]
   exact vmn_ps n _ _ _ _ _ _ _ _ _ _ B _ _ _ _ _ (fD n).w w (by omega) (by omega) (by omega) (by omega) (by omega) (by omega) Cc.hAb Cc.cF1 Cc.cF2 Cc.cF3 Cc.cM1 Cc.cM3 Cc.cB2 (by omega) w12 hVe (by omega) (by omega) Cc.hsg _ _ _ hH (by omega) (by omega) (by omega) (by omega) (by omega) (by omega) (by omega) (by omega) 0 0 0 _ 0 0 (vG (fD n) B%8*2^(fD n).t) _ (10^(3*(fD n).j+1)) (vG (fD n) B%8) cO cS b30 b31 (by omega) hF o2 hU (fun W v h1=>(rleft_nt (fD n).t (by decide) (by omega) h1).mono fun r w' ⟨v,e1,e2,e3⟩=>⟨v,e1,e2.more (by omega),e3⟩) (fun W v v' h1 h2=>(radd_nv (by decide) (by decide) h1.nv h2).mono fun r w' ⟨v,e1,e2,e3⟩=>⟨v,e1,e2.more (by decide),e3⟩) rfl cQ (fun W v v' h1 h2=>rcmp_nv (by decide) (by decide) h1 h2) (sgn_below hlt) (fun W v hv=>bits_nv hv)
  ·rw [if_neg hlt,hDV]
   exact vmn_pso n _ _ _ _ _ _ _ _ _ _ B _ _ _ _ _ (fD n).w w (by omega) (by omega) (by omega) (by omega) (by omega) (by omega) Cc.hAb Cc.cF1 Cc.cF2 Cc.cF3 Cc.cM1 Cc.cM3 Cc.cB2 (by omega) w12 hVe (by omega) (by omega) Cc.hsg _ _ _ hH (by omega) (by omega) (by omega) (by omega) (by omega) (by omega) (by omega) (by omega) 0 0 0 _ 0 0 (vG (fD n) B%8*2^(fD n).t) (vG (fD n) B%8*2^(fD n).t+vR (fD n) B) (10^(3*(fD n).j+1)) (vG (fD n) B%8) cO cS b30 b31 (by omega) hF o2 hU (fun W v h1=>(rleft_nt (fD n).t (by decide) (by omega) h1).mono fun r w' ⟨v,e1,e2,e3⟩=>⟨v,e1,e2.more (by omega),e3⟩) (fun W v v' h1 h2=>(radd_nv (by decide) (by decide) h1.nv h2).mono fun r w' ⟨v,e1,e2,e3⟩=>⟨v,e1,e2.more (by decide),e3⟩) rfl cQ (fun W v v' h1 h2=>rcmp_nv (by decide) (by decide) h1 h2) (sgn_above hlt) (fun W=>bits_none W)
 ·have eF:vF false (fD n).w (vG (fD n) B)=vG (fD n) B/2%2^((fD n).w+2):=by unfold vF vV;simp only [Bool.false_eq_true,if_false];rw [← hvv,if_neg h24]
  have eL:vL false (fD n).w (vG (fD n) B)=8+vG (fD n) B%2:=by unfold vL vV;simp only [Bool.false_eq_true,if_false];rw [← hvv,if_neg h24]
  rw [eF,eL]
  have hm:vG (fD n) B/2%2^((fD n).w+2)<2^((fD n).w+2):=Nat.mod_lt _ (Nat.two_pow_pos _)
  have hH4:(2:Int)^((fD n).w+2)=((2^((fD n).w+2):Nat):Int):=(powCast _).symm
  have o1:=and_lay (vG (fD n) B/2) ((fD n).w+2) (by omega) (by omega)
  rw [show ((vG (fD n) B/2:Nat):Int)=(vG (fD n) B:Int)/2 by omega] at o1
  have o3:=and_lay (vG (fD n) B) 1 (by decide) (by omega)
  rw [show (((2^1:Nat):Int)-1)=1 by decide,show vG (fD n) B%2^1=vG (fD n) B%2 from rfl] at o3
  by_cases hlt:(8+vG (fD n) B%2)*2^(fD n).t+vR (fD n) B<10^(3*(fD n).j+1)
  ·rw [if_pos hlt]
   exact vmn_pb n _ _ _ _ _ _ _ _ _ _ B _ _ _ _ _ (fD n).w w (by omega) (by omega) (by omega) (by omega) (by omega) (by omega) Cc.hAb Cc.cF1 Cc.cF2 Cc.cF3 Cc.cM1 Cc.cM3 Cc.cB2 (by omega) w12 hVe (by omega) (by omega) Cc.hsg _ _ ((8+vG (fD n) B%2:Nat):Int) hH (by omega) (by omega) (by omega) (by omega) (by omega) (by omega) (by omega) (by omega) 0 ((vG (fD n) B%2:Nat):Int) ((2^((fD n).w+2):Nat):Int) _ 0 0 ((8+vG (fD n) B%2)*2^(fD n).t) _ (10^(3*(fD n).j+1)) (8+vG (fD n) B%2) cO cS b30 b31 (by omega) hH4 (by omega) (by omega) o1 o3 (by omega) (by omega) (by omega) hU (fun W v h1=>(rleft_nt (fD n).t (by decide) (by omega) h1).mono fun r w' ⟨v,e1,e2,e3⟩=>⟨v,e1,e2.more (by omega),e3⟩) (fun W v v' h1 h2=>(radd_nv (by decide) (by decide) h1.nv h2).mono fun r w' ⟨v,e1,e2,e3⟩=>⟨v,e1,e2.more (by decide),e3⟩) rfl cQ (fun W v v' h1 h2=>rcmp_nv (by decide) (by decide) h1 h2) (sgn_below hlt) (fun W v hv=>bits_nv hv)
  ·rw [if_neg hlt,hDV]
   exact vmn_pbo n _ _ _ _ _ _ _ _ _ _ B _ _ _ _ _ (fD n).w w (by omega) (by omega) (by omega) (by omega) (by omega) (by omega) Cc.hAb Cc.cF1 Cc.cF2 Cc.cF3 Cc.cM1 Cc.cM3 Cc.cB2 (by omega) w12 hVe (by omega) (by omega) Cc.hsg _ _ ((8+vG (fD n) B%2:Nat):Int) hH (by omega) (by omega) (by omega) (by omega) (by omega) (by omega) (by omega) (by omega) 0 ((vG (fD n) B%2:Nat):Int) ((2^((fD n).w+2):Nat):Int) _ 0 0 ((8+vG (fD n) B%2)*2^(fD n).t) ((8+vG (fD n) B%2)*2^(fD n).t+vR (fD n) B) (10^(3*(fD n).j+1)) (8+vG (fD n) B%2) cO cS b30 b31 (by omega) hH4 (by omega) (by omega) o1 o3 (by omega) (by omega) (by omega) hU (fun W v h1=>(rleft_nt (fD n).t (by decide) (by omega) h1).mono fun r w' ⟨v,e1,e2,e3⟩=>⟨v,e1,e2.more (by omega),e3⟩) (fun W v v' h1 h2=>(radd_nv (by decide) (by decide) h1.nv h2).mono fun r w' ⟨v,e1,e2,e3⟩=>⟨v,e1,e2.more (by decide),e3⟩) rfl cQ (fun W v v' h1 h2=>rcmp_nv (by decide) (by decide) h1 h2) (sgn_above hlt) (fun W=>bits_none W)
theorem rmean14 {n:Int}(h:decN n)(B:Nat)(w:World)(hB:B<2^256) :
  Calls Tryz.prog 80 #[.int .i64 n,A4 B] w fun r w'=>r=.returned (vM (fD n) B).v/\Below w.heap.size w w':=by
 by_cases e:vV (fD n).w (vG (fD n) B)=30∨vV (fD n).w (vG (fD n) B)=31
 ·exact vmean_s h B w hB e
 ·cases hdn:(fD n).dn
  ·exact vmean_p h hdn B w hB (fun q=>e (Or.inl q)) (fun q=>e (Or.inr q))
  ·exact vmean_d h hdn B w hB (fun q=>e (Or.inl q)) (fun q=>e (Or.inr q))
section
def vUD (n:Int)(B:Nat):Dat:=if goodD n B then vM (fD n) B else ⟨0,false,false,0,0⟩
def vUC (n:Int)(B:Nat):Bool:=decide (goodD n B/\vP (fD n) (vM (fD n) B)=B)
def vUE (n:Int)(B:Nat):Int:=if goodD n B then 0 else 1
theorem vUD_256 (n:Int)(B:Nat):(vUD n B).k<2^256:=by
 unfold vUD
 split
 ·exact vM_256 (fD_ok n) B
 ·decide
theorem eq_words {X Y:Nat}(hX:X<2^256)(hY:Y<2^256):decide (W4 X 0=W4 Y 0/\W4 X 1=W4 Y 1/\W4 X 2=W4 Y 2/\W4 X 3=W4 Y 3)=decide (X=Y):=by
 refine decide_eq_decide.2 ⟨fun ⟨h0,h1,h2,h3⟩=>A4_inj hX hY fun i hi=>?_,fun h=>by rw [h];exact ⟨rfl,rfl,rfl,rfl⟩⟩
 have:i=0∨i=1∨i=2∨i=3:=by omega
 rcases this with rfl|rfl|rfl|rfl
 ·exact h0
 ·exact h1
 ·exact h2
 ·exact h3
attribute [local irreducible] W4
section
variable (n:Int)(B:Nat)(w:World)
theorem vun_n (c16:∀ W,CB 79 #[.int .i64 n,A4 B] W (.bool false)) :
  CB 39 #[.int .i64 n,A4 B] w (.tuple #[.agg #[.int .i64 0,.bool false,.bool false,.int .i64 0,.int .u64 0,.int .u64 0,.int .u64 0,.int .u64 0],.bool false,.int .i64 1]):=by
 have hsm:=cell_set_map
 go_enter Tryz.func39,Tryz.ntmps39
 go_wp2_with (go_at_call 79;refine (c16 _).mono ?_;rintro r w1 ⟨rfl,hb1⟩;obtain ⟨_,_,_,_,hA1,_⟩:=wz w hb1;obtain ⟨_,_⟩:=zf hb1 (w.heap.size+1);clear hb1)
 exact bodyPost_ret (by simp only [results,Tryz.results39];go_simp) rfl ⟨rfl,bgo⟩
theorem vun_y (c x:Int)(s g:Bool)(k P:Nat)(E:Int)(R:Bool)(hR:decide (W4 P 0=W4 B 0/\W4 P 1=W4 B 1/\W4 P 2=W4 B 2/\W4 P 3=W4 B 3)=R)
  (c16:∀ W,CB 79 #[.int .i64 n,A4 B] W (.bool true))
  (c17:∀ W,CB 80 #[.int .i64 n,A4 B] W (DV c s g x k))
  (c13:∀ W,CB 27 #[.int .i64 n,DV c s g x k] W (.tuple #[A4 P,.int .i64 E])) :
  CB 39 #[.int .i64 n,A4 B] w (.tuple #[DV c s g x k,.bool R,.int .i64 0]):=by
 have h24:=eq24 (W4 P 0) (W4 P 1) (W4 P 2) (W4 P 3) (W4 B 0) (W4 B 1) (W4 B 2) (W4 B 3)
 rw [hR] at h24
 clear hR
 have hsm:=cell_set_map
 unfold DV A4 at *
 go_enter Tryz.func39,Tryz.ntmps39
 go_wp2_with (first
  | (go_at_call 79;refine (c16 _).mono ?_;rintro r w1 ⟨rfl,hb1⟩;obtain ⟨_,_,_,_,hA1,_⟩:=wz w hb1;obtain ⟨_,_⟩:=zf hb1 (w.heap.size+1);clear hb1)
  | (go_at_call 80;refine (c17 _).mono ?_;rintro r w2 ⟨rfl,hb2⟩;obtain ⟨_,_,_,_,hA2,_⟩:=wz w hb2;obtain ⟨_,_⟩:=zf hb2 (w.heap.size+1);clear hb2)
  | (go_at_call 27;refine (c13 _).mono ?_;rintro r w3 ⟨rfl,hb3⟩;obtain ⟨_,_,_,_,hA3,_⟩:=wz w hb3;obtain ⟨_,_⟩:=zf hb3 (w.heap.size+1);obtain ⟨_,_⟩:=zf hb3 w2.heap.size;clear hb3))
 go_region_with (fail)
 all_goals go_wp2
 all_goals exact bodyPost_ret (by simp only [results,Tryz.results39];go_simp) rfl ⟨rfl,bgo⟩
end
theorem zero_v:(Dat.mk 0 false false 0 0).v=.agg #[.int .i64 0,.bool false,.bool false,.int .i64 0,.int .u64 0,.int .u64 0,.int .u64 0,.int .u64 0]:=by unfold Dat.v DV;simp only [W4_zero]
theorem vPV_of {n:Int}{B:Nat}(h:goodD n B):vPV n (vM (fD n) B)=vP (fD n) (vM (fD n) B)/\vPE n (vM (fD n) B)=0:=by
 have hi:=vM_is (fD_ok n) B
 unfold vPV vPE
 exact ⟨if_pos ⟨h.1,hi⟩,by rw [if_pos h.1,if_pos hi]⟩
theorem runp14 (n:Int)(B:Nat)(w:World)(hB:B<2^256) :
  CB 39 #[.int .i64 n,A4 B] w (.tuple #[(vUD n B).v,.bool (vUC n B),.int .i64 (vUE n B)]):=by
 have c16:=fun W=>rgood14 n B hB W
 unfold vUD vUC vUE
 by_cases h:goodD n B
 ·rw [if_pos h,if_pos h]
  rw [decide_eq_true h] at c16
  obtain ⟨e1,e2⟩:=vPV_of h
  have c13:=fun W=>rpk14 n (vM (fD n) B) W (vM_256 (fD_ok n) B)
  rw [e1] at c13
  refine vun_y n B w _ _ _ _ _ _ _ _ ?_ c16 (fun W=>rmean14 h.1 B W hB) c13
  rw [eq_words (vP_256 (fD_ok n) (vM_is (fD_ok n) B)) hB]
  exact decide_eq_decide.2 ⟨fun q=>⟨h,q⟩,fun q=>q.2⟩
 ·rw [if_neg h,if_neg h,decide_eq_false (fun q=>h q.1),zero_v]
  rw [decide_eq_false h] at c16
  exact vun_n n B w c16
end
theorem sgn_times {c:Int}(a b:Int)(hc:0<c):sgn (a*c) (b*c)=sgn a b:=by
 unfold sgn
 have h1:(a*c<b*c)↔a<b:=Int.mul_lt_mul_right hc
 have h2:(b*c<a*c)↔b<a:=Int.mul_lt_mul_right hc
 simp only [h1,h2]
theorem sgn_minus (a b:Int):sgn (-a) (-b)=- sgn a b:=by
 unfold sgn
 split<;>split<;>(try split)<;>omega
theorem sgn_nat {a b:Nat}(c:Nat)(hc:0<c):sgn ((a*c:Nat):Int) ((b*c:Nat):Int)=sgn (a:Int) (b:Int):=by
 rw [Int.natCast_mul,Int.natCast_mul]
 exact sgn_times _ _ (by omega)
def oS (d:Dat):Int:=if d.c=1/\d.k=0 then 0 else if d.s then -1 else 1
def oN (d:Dat)(x:Nat):Nat:=d.k*x^d.x.toNat
def oD (d:Dat)(x:Nat):Nat:=1*x^(-d.x).toNat
def oV (a:Dat)(x:Nat)(b:Dat)(y:Nat):Int :=
 if oS a≠oS b∨oS a=0 then sgn (oS a) (oS b)
 else if a.c=2∨b.c=2 then oS a*sgn a.c b.c
 else oS a*sgn ((oN a x*oD b y:Nat):Int) ((oN b y*oD a x:Nat):Int)
theorem oV_a {a b:Dat}{x y:Nat}(h:oS a≠oS b∨oS a=0):oV a x b y=sgn (oS a) (oS b):=if_pos h
theorem oV_b {a b:Dat}{x y:Nat}(h:oS a=oS b)(h0:oS a≠0)(h2:a.c=2∨b.c=2):oV a x b y=oS a*sgn a.c b.c:=by
 unfold oV
 rw [if_neg (show ¬ (oS a≠oS b∨oS a=0) by omega),if_pos h2]
theorem oV_c {a b:Dat}{x y:Nat}(h:oS a=oS b)(h0:oS a≠0)(h2:¬ (a.c=2∨b.c=2)):oV a x b y=oS a*sgn ((oN a x*oD b y:Nat):Int) ((oN b y*oD a x:Nat):Int):=by
 unfold oV
 rw [if_neg (show ¬ (oS a≠oS b∨oS a=0) by omega),if_neg h2]
theorem oV_swap (a:Dat)(x:Nat)(b:Dat)(y:Nat):oV b y a x=- oV a x b y:=by
 by_cases h:oS a=oS b
 ·by_cases h0:oS b=0
  ·rw [oV_a (Or.inr h0),oV_a (Or.inr (h.trans h0)),h,h0,sgn_self]
   rfl
  ·have h0':oS a≠0:=fun q=>h0 (h.symm.trans q)
   by_cases h2:a.c=2∨b.c=2
   ·rw [oV_b h h0' h2,oV_b h.symm h0 h2.symm,h,sgn_neg a.c b.c,Int.mul_neg]
   ·rw [oV_c h h0' h2,oV_c h.symm h0 (fun q=>h2 q.symm),h,sgn_neg ((oN a x*oD b y:Nat):Int),Int.mul_neg]
 ·rw [oV_a (Or.inl h),oV_a (Or.inl (fun q=>h q.symm)),sgn_neg (oS a)]
def mD (n:Int)(B:Nat):Dat:=if binN n then unD n B else vUD n B
def mX (n:Int):Nat:=if binN n then 2 else 10
def mE (n:Int)(B:Nat):Int:=if binN n then unE n B else vUE n B
def oMc (f:Int)(A:Nat)(g:Int)(B:Nat):Int:=if mE f A≠0∨mE g B≠0 then 0 else if (mD f A).c=3∨(mD g B).c=3 then 0 else oV (mD f A) (mX f) (mD g B) (mX g)
def oMo (f:Int)(A:Nat)(g:Int)(B:Nat):Bool:=if mE f A≠0∨mE g B≠0 then false else if (mD f A).c=3∨(mD g B).c=3 then false else true
def oME (f:Int)(A:Nat)(g:Int)(B:Nat):Int:=if mE f A≠0∨mE g B≠0 then 1 else 0
theorem oMc_swap (f:Int)(A:Nat)(g:Int)(B:Nat):oMc g B f A=- oMc f A g B:=by
 unfold oMc
 by_cases h:mE f A≠0∨mE g B≠0
 ·rw [if_pos h,if_pos h.symm];rfl
 ·rw [if_neg h,if_neg (fun q=>h q.symm)]
  by_cases h2:(mD f A).c=3∨(mD g B).c=3
  ·rw [if_pos h2,if_pos h2.symm];rfl
  ·rw [if_neg h2,if_neg (fun q=>h2 q.symm),oV_swap]
def oR (d:Dat):Int:=if d.s then -(if d.c=3 then (if d.g then 2 else 3) else 1) else (if d.c=3 then (if d.g then 2 else 3) else 1)
def oG (d:Dat):Int:=if d.s then -1 else 1
def oT (a b:Dat)(x:Nat):Int :=
 if oR a≠oR b then sgn (oR a) (oR b)
 else if a.c=3 then oG a*sgn (a.k:Int) (b.k:Int)
 else if oV a x b x=0 then oG a*sgn a.x b.x else oV a x b x
def oTc (n:Int)(A B:Nat):Int:=if mE n A≠0∨mE n B≠0 then 0 else oT (mD n A) (mD n B) (mX n)
def oTE (n:Int)(A B:Nat):Int:=if mE n A≠0∨mE n B≠0 then 1 else 0
def oK (l:Int)(d:Dat):Prop:=(d.c=1/\d.g=false/\l<=d.x)∨(d.c=2/\d.g=false/\d.x=0/\d.k=0)∨(d.c=3/\d.x=0)
def lx (r c v e r' c' v' e':Int):Int:=if r≠r' then sgn r r' else if c≠c' then sgn c c' else if v≠v' then sgn v v' else sgn e e'
theorem lx_swap (r c v e r' c' v' e':Int):lx r' c' v' e' r c v e=- lx r c v e r' c' v' e':=by
 unfold lx
 rw [sgn_neg r r',sgn_neg c c',sgn_neg v v',sgn_neg e e']
 split<;>split<;>(try split)<;>(try split)<;>(try split)<;>(try split)<;>omega
theorem lx_zero (r c v e r' c' v' e':Int):lx r c v e r' c' v' e'=0↔r=r'/\c=c'/\v=v'/\e=e':=by
 unfold lx
 rcases sgn_ways r r' with ⟨a,b⟩|⟨a,b⟩|⟨a,b⟩<;>rcases sgn_ways c c' with ⟨a1,b1⟩|⟨a1,b1⟩|⟨a1,b1⟩<;>rcases sgn_ways v v' with ⟨a2,b2⟩|⟨a2,b2⟩|⟨a2,b2⟩<;>rcases sgn_ways e e' with ⟨a3,b3⟩|⟨a3,b3⟩|⟨a3,b3⟩<;>rw [b,b1,b2,b3]<;>split<;>(try split)<;>(try split)<;>omega
theorem lx_le (r c v e r' c' v' e':Int):lx r c v e r' c' v' e'<=0↔r<r'∨(r=r'/\(c<c'∨(c=c'/\(v<v'∨(v=v'/\e<=e'))))):=by
 unfold lx
 rcases sgn_ways r r' with ⟨a,b⟩|⟨a,b⟩|⟨a,b⟩<;>rcases sgn_ways c c' with ⟨a1,b1⟩|⟨a1,b1⟩|⟨a1,b1⟩<;>rcases sgn_ways v v' with ⟨a2,b2⟩|⟨a2,b2⟩|⟨a2,b2⟩<;>rcases sgn_ways e e' with ⟨a3,b3⟩|⟨a3,b3⟩|⟨a3,b3⟩<;>rw [b,b1,b2,b3]<;>split<;>(try split)<;>(try split)<;>omega
def oI (l:Int)(x:Nat)(d:Dat):Nat:=d.k*x^(d.x-l).toNat
theorem oI_cmp {l:Int}{x:Nat}(hx:0<x){a b:Dat}(ha:l<=a.x)(hb:l<=b.x) :
  sgn ((oN a x*oD b x:Nat):Int) ((oN b x*oD a x:Nat):Int)=sgn (oI l x a:Int) (oI l x b:Int):=by
 unfold oN oD oI
 rw [Nat.one_mul,Nat.one_mul,Nat.mul_assoc,Nat.mul_assoc,← Nat.pow_add,← Nat.pow_add]
 rcases Int.le_total 0 (l+(-a.x).toNat+(-b.x).toNat) with h|h
 ·obtain ⟨p,hp⟩:∃ p:Nat,(p:Int)=l+(-a.x).toNat+(-b.x).toNat:=⟨(l+(-a.x).toNat+(-b.x).toNat).toNat,by omega⟩
  rw [show a.x.toNat+(-b.x).toNat=(a.x-l).toNat+p by omega,show b.x.toNat+(-a.x).toNat=(b.x-l).toNat+p by omega,Nat.pow_add,Nat.pow_add,← Nat.mul_assoc,← Nat.mul_assoc]
  exact sgn_nat _ (Nat.pow_pos hx)
 ·obtain ⟨p,hp⟩:∃ p:Nat,(p:Int)=-(l+(-a.x).toNat+(-b.x).toNat):=⟨(-(l+(-a.x).toNat+(-b.x).toNat)).toNat,by omega⟩
  rw [show (a.x-l).toNat=a.x.toNat+(-b.x).toNat+p by omega,show (b.x-l).toNat=b.x.toNat+(-a.x).toNat+p by omega,Nat.pow_add x (a.x.toNat+(-b.x).toNat),Nat.pow_add x (b.x.toNat+(-a.x).toNat),← Nat.mul_assoc,← Nat.mul_assoc]
  exact (sgn_nat _ (Nat.pow_pos hx)).symm
def kC (d:Dat):Int:=oG d*d.c
def kV (l:Int)(x:Nat)(d:Dat):Int:=oG d*(if d.c=3 then (d.k:Int) else if d.c=1 then (oI l x d:Int) else 0)
def kE (d:Dat):Int:=oG d*(if d.c=1 then d.x else 0)
theorem oI_pos {l:Int}{x:Nat}(hx:0<x){d:Dat}(h:d.k≠0):0<oI l x d:=Nat.mul_pos (Nat.pos_of_ne_zero h) (Nat.pow_pos hx)
theorem oG_sq (d:Dat):(d.s=true/\oG d=-1)∨(d.s=false/\oG d=1):=by
 unfold oG
 cases d.s
 ·exact Or.inr ⟨rfl,rfl⟩
 ·exact Or.inl ⟨rfl,rfl⟩
theorem sgn_G {d:Dat}(a b:Int):sgn (oG d*a) (oG d*b)=oG d*sgn a b:=by
 rcases oG_sq d with ⟨_,h⟩|⟨_,h⟩
 ·rw [h,Int.neg_mul,Int.neg_mul,Int.neg_mul,Int.one_mul,Int.one_mul,Int.one_mul,sgn_minus]
 ·rw [h,Int.one_mul,Int.one_mul,Int.one_mul]
theorem oV_one {l:Int}{x:Nat}(hx:0<x){a b:Dat}(ha:oK l a)(hb:oK l b)(hs:a.s=b.s)(h3:a.c≠3)(h3':b.c≠3) :
  oV a x b x=if a.c≠b.c then oG a*sgn a.c b.c else if a.c=1 then oG a*sgn (oI l x a:Int) (oI l x b:Int) else 0:=by
 have hG:oG b=oG a:=by unfold oG;rw [hs]
 have sA:oS a=if a.c=1/\a.k=0 then 0 else oG a:=rfl
 have sB:oS b=if b.c=1/\b.k=0 then 0 else oG a:=by rw [← hG];rfl
 have hg:oG a=1∨oG a=-1:=by rcases oG_sq a with ⟨_,h⟩|⟨_,h⟩<;>omega
 have hc1:a.c=1∨a.c=2:=by rcases ha with h|h|h<;>omega
 have hc2:b.c=1∨b.c=2:=by rcases hb with h|h|h<;>omega
 have g1:sgn 1 2=-1:=by decide
 have g2:sgn 2 1=1:=by decide
 have z0:∀ {d:Dat},d.k=0->oI l x d=0:=fun h=>by unfold oI;rw [h,Nat.zero_mul]
 rcases hc1 with q1|q1<;>rcases hc2 with q2|q2
 ·-- both are finite
  rw [if_neg (fun h=>h (q1.trans q2.symm)),if_pos q1]
  by_cases k1:a.k=0
  ·rw [if_pos ⟨q1,k1⟩] at sA
   by_cases k2:b.k=0
   ·rw [if_pos ⟨q2,k2⟩] at sB
    rw [oV_a (Or.inr sA),sA,sB,z0 k1,z0 k2,sgn_self]
    rw [show sgn ((0:Nat):Int) ((0:Nat):Int)=0 from sgn_self _,Int.mul_zero]
   ·rw [if_neg (fun h=>k2 h.2)] at sB
    rw [oV_a (Or.inr sA),sA,sB,z0 k1]
    have:=oI_pos (l:=l) hx k2
    have e:sgn ((0:Nat):Int) (oI l x b:Int)=-1:=by unfold sgn;rw [if_pos (by omega)]
    rw [e]
    rcases hg with h|h<;>rw [h]<;>decide
  ·rw [if_neg (fun h=>k1 h.2)] at sA
   by_cases k2:b.k=0
   ·rw [if_pos ⟨q2,k2⟩] at sB
    rw [oV_a (Or.inl (by rw [sA,sB];omega)),sA,sB,z0 k2]
    have:=oI_pos (l:=l) hx k1
    have e:sgn (oI l x a:Int) ((0:Nat):Int)=1:=by unfold sgn;rw [if_neg (by omega),if_pos (by omega)]
    rw [e]
    rcases hg with h|h<;>rw [h]<;>decide
   ·rw [if_neg (fun h=>k2 h.2)] at sB
    have l1:l<=a.x:=by rcases ha with h|h|h<;>omega
    have l2:l<=b.x:=by rcases hb with h|h|h<;>omega
    rw [oV_c (by rw [sA,sB]) (by rw [sA];omega) (by omega),sA,oI_cmp hx l1 l2]
 ·rw [if_pos (show a.c≠b.c by omega),q1,q2,g1]
  rw [if_neg (show ¬ (b.c=1/\b.k=0) by omega)] at sB
  by_cases k1:a.k=0
  ·rw [if_pos ⟨q1,k1⟩] at sA
   rw [oV_a (Or.inr sA),sA,sB]
   rcases hg with h|h<;>rw [h]<;>decide
  ·rw [if_neg (fun h=>k1 h.2)] at sA
   rw [oV_b (by rw [sA,sB]) (by rw [sA];omega) (Or.inr q2),sA,q1,q2,g1]
 ·rw [if_pos (show a.c≠b.c by omega),q1,q2,g2]
  rw [if_neg (show ¬ (a.c=1/\a.k=0) by omega)] at sA
  by_cases k1:b.k=0
  ·rw [if_pos ⟨q2,k1⟩] at sB
   rw [oV_a (Or.inl (by rw [sA,sB];omega)),sA,sB]
   rcases hg with h|h<;>rw [h]<;>decide
  ·rw [if_neg (fun h=>k1 h.2)] at sB
   rw [oV_b (by rw [sA,sB]) (by rw [sA];omega) (Or.inl q1),sA,q1,q2,g2]
 ·rw [if_neg (show ¬ a.c≠b.c by omega),if_neg (show ¬ a.c=1 by omega)]
  rw [if_neg (show ¬ (a.c=1/\a.k=0) by omega)] at sA
  rw [if_neg (show ¬ (b.c=1/\b.k=0) by omega)] at sB
  rw [oV_b (by rw [sA,sB]) (by rw [sA];omega) (Or.inl q1),q1,q2,sgn_self,Int.mul_zero]
theorem oR_s {d:Dat}:(d.s=true/\oR d<0)∨(d.s=false/\0<oR d):=by
 unfold oR
 cases d.s
 ·right;refine ⟨rfl,?_⟩;rw [if_neg (by decide)];split<;>(try split)<;>omega
 ·left;refine ⟨rfl,?_⟩;rw [if_pos rfl];split<;>(try split)<;>omega
theorem oR_eq {a b:Dat}(h:oR a=oR b):a.s=b.s/\(a.c=3↔b.c=3)/\(a.c=3->a.g=b.g):=by
 have hs:a.s=b.s:=by
  rcases oR_s (d:=a) with ⟨h1,h2⟩|⟨h1,h2⟩<;>rcases oR_s (d:=b) with ⟨h3,h4⟩|⟨h3,h4⟩<;>rw [h1,h3]<;>omega
 refine ⟨hs,?_⟩
 unfold oR at h
 rw [hs] at h
 have h':(if a.c=3 then (if a.g then 2 else 3) else 1)=(if b.c=3 then (if b.g then (2:Int) else 3) else 1):=by
  cases hb':b.s
  ·simpa [hb'] using h
  ·simp only [hb',if_true] at h
   omega
 by_cases c1:a.c=3
 ·rw [if_pos c1] at h'
  by_cases c2:b.c=3
  ·rw [if_pos c2] at h'
   refine ⟨⟨fun _=>c2,fun _=>c1⟩,fun _=>?_⟩
   cases hg:a.g<;>cases hg':b.g<;>rw [hg,hg'] at h'<;>first|rfl|(exfalso;revert h';decide)
  ·rw [if_neg c2] at h'
   exfalso
   split at h'<;>omega
 ·rw [if_neg c1] at h'
  by_cases c2:b.c=3
  ·rw [if_pos c2] at h'
   exfalso
   split at h'<;>omega
  ·exact ⟨⟨fun q=>absurd q c1,fun q=>absurd q c2⟩,fun q=>absurd q c1⟩
theorem oT_3 {a b:Dat}{x:Nat}(hR:oR a=oR b)(h:a.c=3):oT a b x=oG a*sgn (a.k:Int) (b.k:Int):=by
 unfold oT
 rw [if_neg (show ¬ (oR a≠oR b) from fun q=>q hR),if_pos h]
theorem oT_v {a b:Dat}{x:Nat}(hR:oR a=oR b)(h:a.c≠3):oT a b x=if oV a x b x=0 then oG a*sgn a.x b.x else oV a x b x:=by
 unfold oT
 rw [if_neg (show ¬ (oR a≠oR b) from fun q=>q hR),if_neg h]
theorem lx_1 {r c v e r' c' v' e':Int}(h:r≠r'):lx r c v e r' c' v' e'=sgn r r':=if_pos h
theorem lx_2 {r c v e r' c' v' e':Int}(h:r=r')(h2:c≠c'):lx r c v e r' c' v' e'=sgn c c':=by
 unfold lx;rw [if_neg (show ¬ r≠r' from fun q=>q h),if_pos h2]
theorem lx_3 {r c v e r' c' v' e':Int}(h:r=r')(h2:c=c')(h3:v≠v'):lx r c v e r' c' v' e'=sgn v v':=by
 unfold lx;rw [if_neg (show ¬ r≠r' from fun q=>q h),if_neg (show ¬ c≠c' from fun q=>q h2),if_pos h3]
theorem lx_4 {r c v e r' c' v' e':Int}(h:r=r')(h2:c=c')(h3:v=v'):lx r c v e r' c' v' e'=sgn e e':=by
 unfold lx;rw [if_neg (show ¬ r≠r' from fun q=>q h),if_neg (show ¬ c≠c' from fun q=>q h2),if_neg (show ¬ v≠v' from fun q=>q h3)]
theorem oT_lx {l:Int}{x:Nat}(hx:0<x){a b:Dat}(ha:oK l a)(hb:oK l b):oT a b x=lx (oR a) (kC a) (kV l x a) (kE a) (oR b) (kC b) (kV l x b) (kE b):=by
 by_cases hR:oR a=oR b
 ·obtain ⟨hs,h3,hg⟩:=oR_eq hR
  have hG:oG b=oG a:=by unfold oG;rw [hs]
  have hq:oG a=1∨oG a=-1:=by rcases oG_sq a with ⟨_,h⟩|⟨_,h⟩<;>omega
  have can:∀ p q:Int,oG a*p=oG a*q->p=q:=fun p q h=>by rcases hq with e|e<;>rw [e] at h<;>omega
  by_cases c3:a.c=3
  ·have c3':=h3.1 c3
   have e1:kC a=kC b:=by unfold kC;rw [hG,c3,c3']
   have e2:kV l x a=oG a*(a.k:Int):=by unfold kV;rw [if_pos c3]
   have e3:kV l x b=oG a*(b.k:Int):=by unfold kV;rw [if_pos c3',hG]
   have e4:kE a=kE b:=by unfold kE;rw [hG,c3,c3',if_neg (by decide),if_neg (by decide)]
   rw [oT_3 hR c3]
   by_cases hk:a.k=b.k
   ·rw [lx_4 hR e1 (by rw [e2,e3,hk]),e4,hk,sgn_self,sgn_self,Int.mul_zero]
   ·rw [lx_3 hR e1 (by rw [e2,e3];exact fun q=>hk (Int.ofNat.inj (can _ _ q))),e2,e3,sgn_G]
  ·have c3':b.c≠3:=fun q=>c3 (h3.2 q)
   rw [oT_v hR c3,oV_one hx ha hb hs c3 c3']
   by_cases hc:a.c=b.c
   ·have e1:kC a=kC b:=by unfold kC;rw [hG,hc]
    rw [if_neg (show ¬ a.c≠b.c from fun q=>q hc)]
    by_cases c1:a.c=1
    ·have c1':b.c=1:=hc.symm.trans c1
     have e2:kV l x a=oG a*(oI l x a:Int):=by unfold kV;rw [if_neg c3,if_pos c1]
     have e3:kV l x b=oG a*(oI l x b:Int):=by unfold kV;rw [if_neg c3',if_pos c1',hG]
     have e4:kE a=oG a*a.x:=by unfold kE;rw [if_pos c1]
     have e5:kE b=oG a*b.x:=by unfold kE;rw [if_pos c1',hG]
     rw [if_pos c1]
     by_cases hv:oI l x a=oI l x b
     ·rw [lx_4 hR e1 (by rw [e2,e3,hv]),e4,e5,hv,sgn_self,Int.mul_zero,if_pos rfl,sgn_G]
     ·have hne:sgn (oI l x a:Int) (oI l x b:Int)≠0:=by
       rcases sgn_ways (oI l x a:Int) (oI l x b:Int) with ⟨p,q⟩|⟨p,q⟩|⟨p,q⟩<;>omega
      have hne2:oG a*sgn (oI l x a:Int) (oI l x b:Int)≠0:=by rcases hq with q|q<;>rw [q]<;>omega
      rw [if_neg hne2,lx_3 hR e1 (by rw [e2,e3];exact fun q=>hv (Int.ofNat.inj (can _ _ q))),e2,e3,sgn_G]
    ·have h2':a.c=2:=by rcases ha with h|h|h<;>omega
     have h2:b.c=2:=hc.symm.trans h2'
     have c1':¬ b.c=1:=by omega
     have x1:a.x=0:=by rcases ha with h|h|h<;>omega
     have x2:b.x=0:=by rcases hb with h|h|h<;>omega
     have e2:kV l x a=kV l x b:=by unfold kV;rw [if_neg c3,if_neg c1,if_neg c3',if_neg c1',hG]
     have e4:kE a=kE b:=by unfold kE;rw [if_neg c1,if_neg c1',hG]
     rw [if_neg c1,if_pos rfl,lx_4 hR e1 e2,e4,x1,x2,sgn_self,sgn_self,Int.mul_zero]
   ·have hne:sgn a.c b.c≠0:=by
     rcases sgn_ways a.c b.c with ⟨p,q⟩|⟨p,q⟩|⟨p,q⟩<;>omega
    have hne2:oG a*sgn a.c b.c≠0:=by rcases hq with q|q<;>rw [q]<;>omega
    have e1:kC a=oG a*a.c:=rfl
    have e2:kC b=oG a*b.c:=by unfold kC;rw [hG]
    rw [if_pos hc,if_neg hne2,lx_2 hR (by rw [e1,e2];exact fun q=>hc (can _ _ q)),e1,e2,sgn_G]
 ·rw [lx_1 hR]
  exact if_pos hR
theorem k_eq {l:Int}{x:Nat}(hx:0<x){a b:Dat}(ha:oK l a)(hb:oK l b)(h1:oR a=oR b)(h2:kC a=kC b)(h3:kV l x a=kV l x b)(h4:kE a=kE b):a=b:=by
 obtain ⟨hs,e3,hg⟩:=oR_eq h1
 have hG:oG b=oG a:=by unfold oG;rw [hs]
 unfold kC kV kE at *
 rw [hG] at h2 h3 h4
 have hq:oG a=1∨oG a=-1:=by rcases oG_sq a with ⟨_,h⟩|⟨_,h⟩<;>omega
 have can:∀ p q:Int,oG a*p=oG a*q->p=q:=fun p q h=>by rcases hq with e|e<;>rw [e] at h<;>omega
 have h2:=can _ _ h2
 have h3:=can _ _ h3
 have h4:=can _ _ h4
 obtain ⟨c,s,g,y,k⟩:=a
 obtain ⟨c',s',g',y',k'⟩:=b
 dsimp only at *
 subst h2 hs
 rcases ha with ⟨p1,p2,p3⟩|⟨p1,p2,p3,p4⟩|⟨p1,p2⟩
 ·dsimp only at p1 p2 p3
  subst p1
  rcases hb with ⟨q1,q2,q3⟩|⟨q1,q2,q3,q4⟩|⟨q1,q2⟩
  ·dsimp only at q2 q3
   rw [if_pos rfl,if_pos rfl] at h4
   have n13:¬ (1:Int)=3:=by decide
   rw [if_neg n13,if_pos rfl,if_neg n13,if_pos rfl] at h3
   subst h4
   have h5:k*x^(y-l).toNat=k'*x^(y-l).toNat:=Int.ofNat.inj h3
   have h6:=Nat.mul_right_cancel (Nat.pow_pos hx) h5
   rw [p2,q2,h6]
  ·exact absurd (show (1:Int)=2 from q1) (by decide)
  ·exact absurd (show (1:Int)=3 from q1) (by decide)
 ·dsimp only at p1 p2 p3 p4
  subst p1
  rcases hb with ⟨q1,q2,q3⟩|⟨q1,q2,q3,q4⟩|⟨q1,q2⟩
  ·exact absurd (show (2:Int)=1 from q1) (by decide)
  ·dsimp only at q2 q3 q4
   rw [p2,p3,p4,q2,q3,q4]
  ·exact absurd (show (2:Int)=3 from q1) (by decide)
 ·dsimp only at p1 p2
  subst p1
  rcases hb with ⟨q1,q2,q3⟩|⟨q1,q2,q3,q4⟩|⟨q1,q2⟩
  ·exact absurd (show (3:Int)=1 from q1) (by decide)
  ·exact absurd (show (3:Int)=2 from q1) (by decide)
  ·dsimp only at q2
   rw [if_pos rfl,if_pos rfl] at h3
   rw [p2,q2,hg rfl,Int.ofNat.inj h3]
theorem oT_swap {l:Int}{x:Nat}(hx:0<x){a b:Dat}(ha:oK l a)(hb:oK l b):oT b a x=- oT a b x:=by
 rw [oT_lx hx ha hb,oT_lx hx hb ha,lx_swap]
theorem oT_zero {l:Int}{x:Nat}(hx:0<x){a b:Dat}(ha:oK l a)(hb:oK l b):oT a b x=0↔a=b:=by
 rw [oT_lx hx ha hb,lx_zero]
 constructor
 ·rintro ⟨h1,h2,h3,h4⟩
  exact k_eq hx ha hb h1 h2 h3 h4
 ·rintro rfl
  exact ⟨rfl,rfl,rfl,rfl⟩
theorem oT_trans {l:Int}{x:Nat}(hx:0<x){a b c:Dat}(ha:oK l a)(hb:oK l b)(hc:oK l c)(h1:oT a b x<=0)(h2:oT b c x<=0):oT a c x<=0:=by
 rw [oT_lx hx ha hb,lx_le] at h1
 rw [oT_lx hx hb hc,lx_le] at h2
 rw [oT_lx hx ha hc,lx_le]
 generalize oR a=r at *
 generalize kC a=c1 at *
 generalize kV l x a=v at *
 generalize kE a=e at *
 generalize oR b=r' at *
 generalize kC b=c1' at *
 generalize kV l x b=v' at *
 generalize kE b=e' at *
 omega
section
theorem tnX_eq {N D:Nat}{E:Int}(hN:0<N)(hD:0<D)(h:TnE N D E):tnX N D=E:=(tnX_is hN hD).only h
theorem third:rqD 7 0 false 1 3 0 0=⟨1,false,false,-7,3333333⟩/\rqF 7 0 false 1 3 0=8/\rqE 7 0 1 3=0:=by
 have e0:rqE 7 0 1 3=0:=by
  have b1:bl 1<=2:=bl_le.2 (by decide)
  have b3:bl 3<=2:=bl_le.2 (by decide)
  unfold rqE
  rw [if_pos ⟨by unfold decN;omega,by unfold knB;omega,by decide⟩,if_neg (by omega)]
 have eX:tnX (1*10^(clT 0).toNat) (3*10^(-(clT 0)).toNat)=-1:=tnX_eq (by decide) (by decide) ⟨by decide,by decide⟩
 refine ⟨?_,?_,e0⟩
 ·unfold rqD
  rw [if_pos e0,if_neg (by decide),eX]
  have h1:(dkD (fD 7) 0 false (1*10^(clT 0).toNat) (3*10^(-(clT 0)).toNat) (-1) 0).c=1/\(dkD (fD 7) 0 false (1*10^(clT 0).toNat) (3*10^(-(clT 0)).toNat) (-1) 0).s=false/\(dkD (fD 7) 0 false (1*10^(clT 0).toNat) (3*10^(-(clT 0)).toNat) (-1) 0).g=false/\(dkD (fD 7) 0 false (1*10^(clT 0).toNat) (3*10^(-(clT 0)).toNat) (-1) 0).x=-7/\(dkD (fD 7) 0 false (1*10^(clT 0).toNat) (3*10^(-(clT 0)).toNat) (-1) 0).k=3333333:=by decide +kernel
  generalize dkD (fD 7) 0 false (1*10^(clT 0).toNat) (3*10^(-(clT 0)).toNat) (-1) 0=R at h1 ⊢
  obtain ⟨c,s,g,x,k⟩:=R
  simp only at h1
  obtain ⟨rfl,rfl,rfl,rfl,rfl⟩:=h1
  rfl
 ·unfold rqF
  rw [if_pos e0,if_neg (by decide),eX]
  decide +kernel
attribute [local irreducible] W4 Nt
end
section
def vB (f:DF):Nat:=if f.dn then f.w else 0
def LF (f:DF):Value:=LD f.dn ((f.w+5:Nat):Int) (f.t:Int) (vB f:Int) (vQ f) (10^(3*f.j+1)) (10^(3*f.j)) f.l (f.l+3*2^f.w-1)
theorem DF.ok.w12 {f:DF}(h:f.ok):6<=f.w/\f.w<=12/\f.t<=110/\20<=f.t/\f.j<=11:=by
 rcases h with ⟨h1,h2,h3,h4⟩|⟨h1,h2,h3,h4⟩|⟨h1,h2,h3,h4⟩<;>omega
theorem vQ_256 {f:DF}(h:f.ok):vQ f<2^128:=by
 unfold vQ
 rcases h with ⟨h1,h2,h3,h4⟩|⟨h1,h2,h3,h4⟩|⟨h1,h2,h3,h4⟩<;>rw [h1,h3]<;>cases f.dn<;>decide
theorem ten_128 {f:DF}(h:f.ok):10^(3*f.j+1)<2^128/\10^(3*f.j)<2^128:=by
 rcases h with ⟨h1,h2,h3,h4⟩|⟨h1,h2,h3,h4⟩|⟨h1,h2,h3,h4⟩<;>rw [h3]<;>decide
theorem i2pow (n:Nat):(2:Int)^n=((2^n:Nat):Int):=by simp
theorem i2div (x n:Nat):(x:Int)/2^n=((x/2^n:Nat):Int):=by rw [i2pow,Int.natCast_ediv]
theorem i2mod (x n:Nat):(x:Int)%2^n=((x%2^n:Nat):Int):=by rw [i2pow,Int.natCast_emod]
theorem beq_dec (x y:Nat):(((x:Nat):Int)==(y:Int))=decide (x=y):=by
 by_cases h:x=y
 ·subst h;simp
 ·rw [decide_eq_false h];simp;omega
section
variable {f:DF}(h:f.ok)
include h
theorem fsplit (B:Nat)(w:World)(hB:B<2^256):CB 121 #[LF f,A4 B] w (.tuple #[.bool (vS f B),.int .u64 (vG f B:Int),A4 (vR f B)]):=by
 have hw:=h.w12
 have hd:B/2^f.t<2^256:=Nat.lt_of_le_of_lt (Nat.div_le_self _ _) hB
 have hle:B/2^f.t*2^f.t<=B:=Nat.div_mul_le_self _ _
 have c3:=fun W=>sub4 B (B/2^f.t*2^f.t) W hB (Nat.lt_of_le_of_lt hle hB)
 rw [A4_sub hle,show B-B/2^f.t*2^f.t=vR f B by unfold vR;have:=Nat.div_add_mod' B (2^f.t);omega] at c3
 have c5:=fun W=>dlowb_v (W4 (B/2^f.t) 0) (f.w+5) (W4_words _ 0) (by omega) W
 have e5:W4 (B/2^f.t) 0%2^(f.w+5)=(vG f B:Int):=by
  unfold W4 vG
  rw [Nat.mul_zero,Nat.pow_zero,Nat.div_one,i2mod]
  congr 1
  rw [show (18446744073709551616:Nat)=2^(f.w+5)*2^(64-(f.w+5)) by rw [← Nat.pow_add,show f.w+5+(64-(f.w+5))=64 by omega]]
  exact Nat.mod_mul_right_mod _ _ _
 rw [e5] at c5
 have e4:(((B/2^f.t/2^(f.w+5)%2:Nat):Int)==1)=vS f B:=by
  unfold vS
  rw [Nat.div_div_eq_div_mul,← Nat.pow_add]
  exact beq_dec _ 1
 rw [← e4]
 exact split_w _ _ _ _ _ _ _ _ _ w B _ _ _ _ _ _ (fun W=>shr4 B f.t W hB (by omega)) (fun W=>shl4 (B/2^f.t) f.t W hd (by omega)) c3 (fun W=>bit4 (B/2^f.t) (f.w+5) W hd (by omega)) c5
theorem fkind (G:Nat)(w:World)(hG:G<2^(f.w+5)):CB 122 #[LF f,.int .u64 (G:Int)] w (.int .u64 (vV f.w G:Int)):=by
 have hw:=h.w12
 have hp:2^(f.w+5)<=2^17:=Nat.pow_le_pow_right (by decide) (by omega)
 exact kind_v _ _ _ _ _ _ _ _ _ w (G:Int) _ f.w (by omega) (by omega) (by omega) (by omega) (i2div G f.w)
theorem fsig (G:Nat)(w:World)(hG:G<2^(f.w+5)):CB 123 #[LF f,.int .u64 (G:Int)] w (.bool (decide (G/2^(f.w-1)%2=1))):=by
 have hw:=h.w12
 have hp:2^(f.w+5)<=2^17:=Nat.pow_le_pow_right (by decide) (by omega)
 have hd:G/2^(f.w-1)<=G:=Nat.div_le_self _ _
 have e:=and_lay (G/2^(f.w-1)) 1 (by decide) (by omega)
 have e1:bits .and .u64 ((G:Int)/2^(f.w-1)) 1=((G/2^(f.w-1)%2:Nat):Int):=by rw [i2div];exact e
 have c:=signals_v f.dn ((f.w+5:Nat):Int) (f.t:Int) (vB f:Int) (vQ f) (10^(3*f.j+1)) (10^(3*f.j)) f.l (f.l+3*2^f.w-1) w (G:Int) _ (f.w-1) (by omega) (by omega) (by omega) (by omega) e1
 rw [show (((G/2^(f.w-1)%2:Nat):Int)==1)=decide (G/2^(f.w-1)%2=1) from beq_dec _ 1] at c
 exact c
theorem fspec (k:Nat)(s:Bool)(w:World)(hk:k<=31):CB 159 #[LF f,.int .u64 (k:Int),.bool s] w (.int .u64 ((k*2^f.w+(if s then 2^(f.w-1) else 0):Nat):Int)):=by
 have hw:=h.w12
 have ho:=or_lay k 1 1 (by decide) (by omega)
 have hp:2^(f.w-1)<=2^11:=Nat.pow_le_pow_right (by decide) (by omega)
 have hp0:1<=2^(f.w-1):=Nat.one_le_two_pow
 have e2:2^f.w=2*2^(f.w-1):=by rw [← Nat.pow_succ'];congr 1;omega
 refine special_v _ _ _ _ _ _ _ _ _ w (k:Int) _ s (f.w-1) (by omega) (by omega) (by omega) (by omega) (by omega) ((2^(f.w-1):Nat):Int) (i2pow _) (by omega) (by omega) ?_ ?_ ?_
 ·rw [show ((k*2^1:Nat):Int)=(k:Int)*2 by omega] at ho
  rw [show (1:Int)=((1:Nat):Int) from rfl,ho];omega
 ·rw [e2]
  generalize 2^(f.w-1)=H at *
  cases s
  ·simp only [Bool.false_eq_true,if_false,Int.add_zero,Nat.add_zero]
   rw [Int.natCast_mul,Int.natCast_mul,Int.mul_assoc];rfl
  ·simp only [if_true]
   rw [Int.natCast_add,Int.natCast_mul,Int.natCast_mul,Int.add_mul,Int.one_mul,Int.mul_assoc];rfl
 ·have:k*2^f.w<=31*2^12:=Nat.mul_le_mul hk (Nat.pow_le_pow_right (by decide) (by omega))
  have:(if s then 2^(f.w-1) else 0)<=2^11:=by split<;>omega
  omega
theorem fread (R:Nat)(w:World)(hR:R<2^f.t):CB 125 #[LF f,A4 R] w (A4 (vT f R)):=by
 have hw:=h.w12
 have h256:R<2^256:=Nat.lt_of_lt_of_le hR (Nat.pow_le_pow_right (by decide) (by omega))
 unfold LF vT
 have ht:=h.t10
 cases hd:f.dn
 ·simp only [Bool.false_eq_true,if_false]
  exact read_p _ _ _ _ _ _ _ _ w R
 ·simp only [if_true]
  have c:=fun W=>dupk_any R (f.j:Int) W h256
  have e:dUv R (f.j:Int)=dlU f.j R:=by
   unfold dUv
   rw [if_pos (by omega),Int.toNat_natCast,if_pos (by rw [← h.pt];exact hR)]
  rw [e] at c
  exact read_d _ _ _ _ _ _ _ _ w R _ _ (f.j:Int) (by omega) (by omega) (by omega) c
theorem fwrite (C:Nat)(w:World)(hC:C<2^256)(hd:f.dn=true->C<1000^f.j):CB 158 #[LF f,A4 C] w (A4 (if f.dn then dlP f.j C else C)):=by
 have hw:=h.w12
 unfold LF
 have ht:=h.t10
 cases e:f.dn
 ·simp only [Bool.false_eq_true,if_false]
  exact write_p _ _ _ _ _ _ _ _ w C
 ·simp only [if_true]
  have c:=fun W=>dpck_any C (f.j:Int) W hC
  have e:dPv C (f.j:Int)=dlP f.j C:=by
   unfold dPv
   rw [if_pos (by omega),Int.toNat_natCast,if_pos (hd e)]
  rw [e] at c
  exact write_d _ _ _ _ _ _ _ _ w C _ _ (f.j:Int) (by omega) (by omega) (by omega) c
theorem fjoin (s:Bool)(G R:Nat)(w:World)(hG:G<2^(f.w+5))(hR:R<2^f.t):CB 156 #[LF f,.bool s,.int .u64 (G:Int),A4 R] w (A4 ((if s then 2^(f.t+(f.w+5)) else 0)+G*2^f.t+R)):=by
 have hw:=h.w12
 have hp:2^(f.w+5)<=2^17:=Nat.pow_le_pow_right (by decide) (by omega)
 have hp0:1<=2^(f.w+5):=Nat.one_le_two_pow
 have hpt:2^f.t<=2^110:=Nat.pow_le_pow_right (by decide) (by omega)
 have key:∀ E:Nat,E<2^18->(∀ W,CB 84 #[.int .u64 (E:Int)] W (A4 E))/\(∀ W,CB 150 #[A4 E,.int .i64 (f.t:Int)] W (A4 (E*2^f.t)))/\(∀ W,CB 86 #[A4 (E*2^f.t),A4 R] W (.tuple #[A4 (E*2^f.t+R),.int .u64 (((E*2^f.t+R)/2^256:Nat):Int)])):=by
  intro E hE
  have hm:E*2^f.t<=2^18*2^110:=Nat.mul_le_mul (by omega) hpt
  have e:(2:Nat)^18*2^110<2^256:=by decide
  exact ⟨fun W=>of4 E W (by omega),fun W=>shl4 E f.t W (by omega) (by omega),fun W=>add4 _ _ W (by omega) (Nat.lt_of_lt_of_le hR (by omega))⟩
 cases s
 ·obtain ⟨k1,k2,k3⟩:=key G (by omega)
  simp only [Bool.false_eq_true,if_false,Nat.zero_add]
  exact djoin_n _ _ _ _ _ _ _ _ _ w _ _ _ _ _ _ k1 k2 k3
 ·obtain ⟨k1,k2,k3⟩:=key (2^(f.w+5)+G) (by omega)
  have ho:=or_lay 1 G (f.w+5) hG (by omega)
  rw [Nat.one_mul] at ho
  have hc:bits .or .u64 (G:Int) ((2^(f.w+5):Nat):Int)=((2^(f.w+5)+G:Nat):Int):=by
   rw [← ho]
   have e1:=orW_eq ((2^(f.w+5):Nat):Int) (G:Int) (by omega) (by omega)
   have e2:=orW_eq (G:Int) ((2^(f.w+5):Nat):Int) (by omega) (by omega)
   unfold orW at e1 e2
   rw [e1,e2,Nat.or_comm]
  simp only [if_true]
  rw [show 2^(f.t+(f.w+5))+G*2^f.t+R=(2^(f.w+5)+G)*2^f.t+R by rw [Nat.add_mul,← Nat.pow_add,Nat.add_comm (f.w+5) f.t]]
  exact djoin_s _ _ _ _ _ _ _ _ _ w (G:Int) _ _ _ _ _ _ k1 k2 k3 (f.w+5) _ rfl (by omega) (i2pow _) (by omega) (by omega) hc
theorem fpart (G:Nat)(w:World)(hG:G<2^(f.w+5)):CB 126 #[LF f,.int .u64 (G:Int)] w (.tuple #[.int .u64 (vF f.dn f.w G:Int),.int .u64 (vL f.dn f.w G:Int)]):=by
 have hw:=h.w12
 have hp:2^(f.w+5)<=2^17:=Nat.pow_le_pow_right (by decide) (by omega)
 have hB:vB f<=12:=by unfold vB;split<;>omega
 have hA:G/2^vB f<=G:=Nat.div_le_self _ _
 have cl:=fun W=>dlowb_v (G:Int) (vB f) (by omega) (by omega) W
 rw [i2mod] at cl
 have hX:G%2^vB f<2^vB f:=Nat.mod_lt _ (Nat.two_pow_pos _)
 have hpb:2^vB f<=2^12:=Nat.pow_le_pow_right (by decide) hB
 have e8:2^(f.w+5)=32*2^f.w:=by rw [Nat.pow_add,Nat.mul_comm]
 have e3:2^(f.w+3)=8*2^f.w:=by rw [Nat.pow_add,Nat.mul_comm]
 have hV8:G/2^(f.w+3)=vV f.w G/8:=by unfold vV;rw [Nat.div_div_eq_div_mul,e3,Nat.mul_comm]
 have hV32:vV f.w G<32:=by unfold vV;rw [Nat.div_lt_iff_lt_mul (Nat.two_pow_pos _),← e8];exact hG
 have hone:1<=2^f.w:=Nat.one_le_two_pow
 by_cases h24:vV f.w G<24
 ·have hF:∃ F:Nat,F=G/2^vB f/8/\vF f.dn f.w G=F*2^vB f+G%2^vB f:=by
   refine ⟨_,rfl,?_⟩
   unfold vF vB
   cases f.dn
   ·simp only [Bool.false_eq_true,if_false,Nat.pow_zero,Nat.div_one,Nat.mod_one,Nat.mul_one,Nat.add_zero,if_pos h24]
   ·simp only [if_true,if_pos h24];rfl
  obtain ⟨F,hF1,hF2⟩:=hF
  have hFl:F<=G:=by rw [hF1];exact Nat.le_trans (Nat.div_le_self _ _) hA
  have hFm:F*2^vB f<=2^17*2^12:=Nat.mul_le_mul (by omega) hpb
  have ho:=or_lay F (G%2^vB f) (vB f) hX (by omega)
  rw [hF2]
  have hL:vL f.dn f.w G=G/2^vB f%8:=by
   unfold vL vB
   cases f.dn
   ·simp only [Bool.false_eq_true,if_false,Nat.pow_zero,Nat.div_one,if_pos h24]
   ·simp only [if_true,if_pos h24];rfl
  rw [hL]
  have c3:=fun W=>dlow_v ((G/2^vB f:Nat):Int) 3 (by omega) (by decide) W
  rw [i2mod] at c3
  refine part_s f.dn _ _ _ _ _ _ _ w (G:Int) ((G/2^vB f:Nat):Int) ((G/2^(f.w+3):Nat):Int) (F:Int) ((F*2^vB f:Nat):Int) ((G%2^vB f:Nat):Int) _ _ (vB f) (f.w+3) (by omega) (by omega) (by omega) (by omega) (by omega) (i2div _ _) (by omega) (by omega) (i2div _ _) (by omega) (by omega) (by rw [i2pow,Int.natCast_mul]) (by omega) (by omega) cl ho ?_ (by omega) c3
  rw [show (3:Int)=((3:Nat):Int) from rfl,beq_dec,hV8]
  exact decide_eq_false (by omega)
 ·have e2:2^(f.w+2)=4*2^f.w:=by rw [Nat.pow_add,Nat.mul_comm]
  have hk:∃ k:Nat,((f.w+3:Nat):Int)-(vB f:Int)=(k:Int)/\k<=15/\vF f.dn f.w G=G/2^vB f%2^k/2*2^vB f+G%2^vB f/\vL f.dn f.w G=8+G/2^vB f%2^k%2:=by
   unfold vF vL vB
   cases f.dn
   ·refine ⟨f.w+3,by simp,by omega,?_,?_⟩
    ·simp only [Bool.false_eq_true,if_false,Nat.pow_zero,Nat.div_one,Nat.mod_one,Nat.mul_one,Nat.add_zero,if_neg h24]
     rw [e2,e3];generalize 2^f.w=H at *;rw [show 8*H=2*(4*H) by omega,Nat.mod_mul_right_div_self]
    ·simp only [Bool.false_eq_true,if_false,Nat.pow_zero,Nat.div_one,if_neg h24]
     rw [e3,show 8*2^f.w=2*(4*2^f.w) by omega,Nat.mod_mul_right_mod]
   ·refine ⟨3,by simp only [if_true];omega,by omega,?_,?_⟩
    ·simp only [if_true,if_neg h24]
     show vV f.w G/2%4*_+_=vV f.w G%2^3/2*_+_
     rw [show (2:Nat)^3=2*4 by decide,Nat.mod_mul_right_div_self]
    ·simp only [if_true,if_neg h24]
     show 8+vV f.w G%2=8+vV f.w G%2^3%2
     rw [show (2:Nat)^3=2*4 by decide,Nat.mod_mul_right_mod]
  obtain ⟨k,hk,hk15,hF2,hL⟩:=hk
  rw [hF2,hL]
  have hAi:(G:Int)/2^vB f=((G/2^vB f:Nat):Int):=i2div _ _
  have hMi:(G:Int)/2^(f.w+3)=((G/2^(f.w+3):Nat):Int):=i2div _ _
  have hq:(((G/2^(f.w+3):Nat):Int)==3)=true:=by
   rw [show (3:Int)=((3:Nat):Int) from rfl,beq_dec,hV8]
   exact decide_eq_true (by omega)
  generalize G/2^vB f=A at *
  generalize G/2^(f.w+3)=M at *
  generalize G%2^vB f=X at *
  have c3:=fun W=>dlow_v (A:Int) k (by omega) (by omega) W
  rw [i2mod] at c3
  have hAk:A%2^k<=A:=Nat.mod_le _ _
  generalize A%2^k=A' at *
  have hFm:A'/2*2^vB f<=2^17*2^12:=Nat.mul_le_mul (by omega) hpb
  have ho:=or_lay (A'/2) X (vB f) hX (by omega)
  have c4:=fun W=>dlow_v (A':Int) 1 (by omega) (by omega) W
  rw [i2mod] at c4
  exact part_g f.dn _ _ _ _ _ _ _ w (G:Int) (A:Int) (M:Int) ((A'/2:Nat):Int) ((A'/2*2^vB f:Nat):Int) (X:Int) _ _ (vB f) (f.w+3) (by omega) (by omega) (by omega) (by omega) (by omega) hAi (by omega) (by omega) hMi (by omega) (by omega) (by rw [i2pow,Int.natCast_mul]) (by omega) (by omega) cl ho (A':Int) ((A'%2^1:Nat):Int) k hq hk (by omega) (by omega) (by omega) (by omega) (by omega) (by omega) c3 c4
theorem funite (E a:Nat)(w:World)(hE:E<3*2^f.w)(ha:a<=9):CB 157 #[LF f,.int .u64 (E:Int),.int .u64 (a:Int)] w (.int .u64 (vN f.dn f.w E a:Int)):=by
 have hw:=h.w12
 have hp:2^f.w<=2^12:=Nat.pow_le_pow_right (by decide) (by omega)
 have hB:vB f<=12:=by unfold vB;split<;>omega
 have hA:E/2^vB f<=E:=Nat.div_le_self _ _
 have cl:=fun W=>dlowb_v (E:Int) (vB f) (by omega) (by omega) W
 rw [i2mod] at cl
 have hX:E%2^vB f<2^vB f:=Nat.mod_lt _ (Nat.two_pow_pos _)
 have hpb:2^vB f<=2^12:=Nat.pow_le_pow_right (by decide) hB
 have hone:1<=2^f.w:=Nat.one_le_two_pow
 by_cases h8:8<=a
 ·have hk:∃ k:Nat,((f.w+5:Nat):Int)-2-(vB f:Int)=(k:Int)/\1<=k/\k<=15/\E/2^vB f*2<2^k/\vN f.dn f.w E a=(3*2^k+E/2^vB f*2+a%2)*2^vB f+E%2^vB f:=by
   unfold vN vB
   have e3:2^(f.w+3)=8*2^f.w:=by rw [Nat.pow_add,Nat.mul_comm]
   cases f.dn
   ·refine ⟨f.w+3,by simp only [Bool.false_eq_true,if_false];omega,by omega,by omega,?_,?_⟩
    ·simp only [Bool.false_eq_true,if_false,Nat.pow_zero,Nat.div_one];omega
    ·simp only [Bool.false_eq_true,if_false,Nat.pow_zero,Nat.div_one,Nat.mod_one,Nat.mul_one,Nat.add_zero,if_pos h8]
   ·refine ⟨3,by simp only [if_true];omega,by omega,by omega,?_,?_⟩
    ·simp only [if_true]
     have:E/2^f.w<3:=by rw [Nat.div_lt_iff_lt_mul (Nat.two_pow_pos _)];exact hE
     omega
    ·simp only [if_true,if_pos h8]
  obtain ⟨k,hk,hk1,hk15,hAk,hN⟩:=hk
  rw [hN]
  have hAi:(E:Int)/2^vB f=((E/2^vB f:Nat):Int):=i2div _ _
  have hpk:2^k<=2^15:=Nat.pow_le_pow_right (by decide) hk15
  have hpk1:1<=2^k:=Nat.one_le_two_pow
  have ek:2^k=2^(k-1)*2:=by rw [← Nat.pow_succ];congr 1;omega
  have hki:(2:Int)^k=((2^k:Nat):Int):=i2pow k
  generalize E/2^vB f=A at *
  generalize E%2^vB f=X at *
  have hU:=or_lay 3 (A*2) k hAk (by omega)
  have hY:=or_lay (3*2^(k-1)+A) (a%2) 1 (Nat.mod_lt _ (by decide)) (by omega)
  rw [show (3*2^(k-1)+A)*2^1=3*2^k+A*2 by omega] at hY
  have c1:=fun W=>dlowb_v (a:Int) 1 (by omega) (by omega) W
  rw [i2mod,Nat.pow_one] at c1
  have hU':bits .or .u64 (3*((2^k:Nat):Int)) ((A:Int)*2)=((3*2^k+A*2:Nat):Int):=by
   rw [← hU,Int.natCast_mul,Int.natCast_mul];rfl
  clear hU
  generalize 2^k=H at *
  have hYm:(3*H+A*2+a%2)*2^vB f<=2^18*2^12:=Nat.mul_le_mul (by omega) hpb
  have ho:=or_lay (3*H+A*2+a%2) X (vB f) hX (by omega)
  exact unite_g f.dn _ _ _ _ _ _ _ w (E:Int) (a:Int) (A:Int) ((3*H+A*2+a%2:Nat):Int) (((3*H+A*2+a%2)*2^vB f:Nat):Int) (X:Int) _ (vB f) (by omega) (by omega) (by omega) (by omega) (by omega) hAi (by omega) (by omega) (by omega) (by omega) (by rw [i2pow,Int.natCast_mul]) (by omega) (by omega) cl ho k (H:Int) ((3*H+A*2:Nat):Int) ((a%2:Nat):Int) (by omega) hk hki (by omega) (by omega) hU' hY c1
 ·have hN:vN f.dn f.w E a=(E/2^vB f*8+a)*2^vB f+E%2^vB f:=by
   unfold vN vB
   cases f.dn
   ·simp only [Bool.false_eq_true,if_false,Nat.pow_zero,Nat.div_one,Nat.mod_one,Nat.mul_one,Nat.add_zero,if_neg h8]
   ·simp only [if_true,if_neg h8]
  rw [hN]
  have hAi:(E:Int)/2^vB f=((E/2^vB f:Nat):Int):=i2div _ _
  generalize E/2^vB f=A at *
  generalize E%2^vB f=X at *
  have hY:=or_lay A a 3 (by omega) (by omega)
  have hY':bits .or .u64 ((A:Int)*8) (a:Int)=((A*8+a:Nat):Int):=hY
  have hYm:(A*8+a)*2^vB f<=2^18*2^12:=Nat.mul_le_mul (by omega) hpb
  have ho:=or_lay (A*8+a) X (vB f) hX (by omega)
  exact unite_s f.dn _ _ _ _ _ _ _ w (E:Int) (a:Int) (A:Int) ((A*8+a:Nat):Int) (((A*8+a)*2^vB f:Nat):Int) (X:Int) _ (vB f) (by omega) (by omega) (by omega) (by omega) (by omega) hAi (by omega) (by omega) (by omega) (by omega) (by rw [i2pow,Int.natCast_mul]) (by omega) (by omega) cl ho (by omega) hY'
end
end
section
theorem vT_256 {f:DF}(h:f.ok){R:Nat}(hR:R<2^f.t):vT f R<2^128:=by
 have hw:=h.w12
 have:=ten_128 h
 cases hd:f.dn
 ·unfold vT;rw [hd,if_neg (by decide)];exact Nat.lt_of_lt_of_le hR (Nat.pow_le_pow_right (by decide) (by omega))
 ·exact Nat.lt_trans (vT_lt h hd R) this.2
theorem vL_9 {f:DF}(dn:Bool)(w G:Nat):vL dn w G<=9:=by
 unfold vL
 cases dn<;>simp only [Bool.false_eq_true,if_false,if_true]<;>split<;>omega
theorem dsgn_ge (A B:Nat):0<=sgn (A:Int) (B:Int)↔¬ A<B:=by
 unfold sgn
 by_cases h:(A:Int)<(B:Int)
 ·rw [if_pos h];constructor
  ·intro q;exact absurd q (by decide)
  ·intro q;omega
 ·rw [if_neg h];constructor
  ·intro _;omega
  ·intro _;split<;>decide
section
variable {f:DF}(h:f.ok)
include h
theorem fmean (B:Nat)(w:World)(hB:B<2^256):Calls Tryz.prog 93 #[LF f,A4 B] w fun r w'=>r=.returned (vM f B).v/\Below w.heap.size w w':=by
 have hw:=h.w12
 have hG:=vG_lt f B
 have hR:=vR_lt f B
 have cs:=fun W=>fsplit h B W hB
 have ck:=fun W=>fkind h (vG f B) W hG
 have cr:=fun W=>fread h (vR f B) W hR
 have hU:=vT_256 h hR
 have h10:=ten_128 h
 have e256:(2:Nat)^128*2^4<2^256:=by decide
 unfold vM vD
 generalize vG f B=G at *
 generalize vR f B=R at *
 generalize vS f B=s at *
 by_cases h30:vV f.w G=30
 ·rw [if_pos h30]
  exact dmean_i _ _ _ _ _ _ _ _ _ w B R s (G:Int) _ cs ck (by rw [h30];rfl)
 ·rw [if_neg h30]
  have e30:(((vV f.w G:Nat):Int)==30)=false:=by rw [show (30:Int)=((30:Nat):Int) from rfl,beq_dec];exact decide_eq_false h30
  by_cases h31:vV f.w G=31
  ·rw [if_pos h31]
   exact dmean_n _ _ _ _ _ _ _ _ _ w B R s (G:Int) _ cs ck (vT f R) _ cr _ e30 (by rw [h31];rfl) (fun W=>fsig h G W hG) (fun W=>nought_v (vT f R) (10^(3*f.j)) W (by omega) (by omega))
  ·rw [if_neg h31]
   have e31:(((vV f.w G:Nat):Int)==31)=false:=by rw [show (31:Int)=((31:Nat):Int) from rfl,beq_dec];exact decide_eq_false h31
   have hL:=vL_9 (f:=f) f.dn f.w G
   have hq:=vQ_256 h
   have hm:vL f.dn f.w G*vQ f<=2^4*2^128:=Nat.mul_le_mul (by omega) (by omega)
   have cm:=fun W=>mul4 (vQ f) (vL f.dn f.w G) W (by omega) (by omega)
   rw [Nat.mul_comm (vQ f)] at cm
   have hF:vF f.dn f.w G<1000000:=by
    unfold vF vV
    rcases h with ⟨h1,h2,h3,h4⟩|⟨h1,h2,h3,h4⟩|⟨h1,h2,h3,h4⟩<;>rw [h2] at hG ⊢<;>cases f.dn<;>simp only [Bool.false_eq_true,if_false,if_true]<;>simp only [Nat.reducePow,Nat.reduceAdd] at*<;> split<;>omega
   have hl:-1000000<=f.l/\f.l<=1000000:=by rcases h with ⟨h1,h2,h3,h4⟩|⟨h1,h2,h3,h4⟩|⟨h1,h2,h3,h4⟩<;>omega
   have e5:(2:Nat)^4*2^128+2^128<2^256:=by decide
   exact dmean_f _ _ _ _ _ _ _ _ _ w B R s (G:Int) _ cs ck (vT f R) _ cr _ _ _ _ _ _ e30 e31 (by omega) (by omega) hl.1 hl.2 (fun W=>fpart h G W hG) cm (fun W=>add4 _ _ W (by omega) (by omega)) (fun W=>nought_v _ (10^(3*f.j+1)) W (by omega) (by omega))
theorem fpack (d:Dat)(w:World)(hk:d.k<2^256):CB 94 #[LF f,d.v] w (.tuple #[A4 (if vI f d then vP f d else 0),.int .i64 (if vI f d then 0 else 3)]):=by
 have hw:=h.w12
 have h10:=ten_128 h
 have hq:=vQ_256 h
 have e256:(2:Nat)^128<2^256:=by decide
 have hl:-1000000<=f.l/\f.l<=0:=by rcases h with ⟨h1,h2,h3,h4⟩|⟨h1,h2,h3,h4⟩|⟨h1,h2,h3,h4⟩<;>omega
 have hw3:(3*2^f.w:Nat)<=3*2^12:=Nat.mul_le_mul (Nat.le_refl _) (Nat.pow_le_pow_right (by decide) (by omega))
 have ei:((3*2^f.w:Nat):Int)=3*2^f.w:=by rw [Int.natCast_mul,i2pow];rfl
 obtain ⟨c,s,g,x,k⟩:=d
 simp only at hk
 by_cases h1:c=1
 ·subst h1
  refine dpack_1 _ _ _ _ _ _ _ _ _ w x s g k _ _ ?_
  intro W
  by_cases hi:vI f ⟨1,s,g,x,k⟩
  ·rw [if_pos hi,if_pos hi]
   have hPG:=vPG_lt h hi
   have hPR:=vPR_lt h hi
   obtain ⟨_,hg,hk10,hx0,hx1⟩:(1:Int)=1/\g=false/\k<10^(3*f.j+1)/\f.l<=x/\x<=f.l+3*2^f.w-1:=by
    rcases hi with hi|hi|hi
    ·exact hi
    ·exact absurd (show (1:Int)=2 from hi.1) (by decide)
    ·exact absurd (show (1:Int)=3 from hi.1) (by decide)
   subst hg
   have hqp:0<vQ f:=by
    unfold vQ;cases f.dn<;>simp only [Bool.false_eq_true,if_false,if_true]
    ·exact Nat.two_pow_pos _
    ·exact Nat.pow_pos (by decide)
   have hm9:k/vQ f<=9:=by
    unfold vQ
    rcases h with ⟨h1,h2,h3,h4⟩|⟨h1,h2,h3,h4⟩|⟨h1,h2,h3,h4⟩<;>rw [h3] at hk10 ⊢<;>rw [h1]<;>cases f.dn<;>simp only [Bool.false_eq_true,if_false,if_true]<;>simp only [Nat.reducePow,Nat.reduceAdd,Nat.reduceMul] at*<;> omega
   have hmod:k-k/vQ f*vQ f=k%vQ f:=by have:=Nat.div_add_mod' k (vQ f);omega
   have hlt:=Nat.mod_lt k hqp
   have hE:(x-f.l).toNat<3*2^f.w:=by omega
   have hEi:x-f.l=(((x-f.l).toNat:Nat):Int):=by omega
   have cn:=fun W=>funite h (x-f.l).toNat (k/vQ f) W hE hm9
   rw [← hEi] at cn
   have hvN:vPG f ⟨1,s,false,x,k⟩=vN f.dn f.w (x-f.l).toNat (k/vQ f):=rfl
   rw [← hvN] at cn
   have hR0:∀ i,k-i*vQ f<2^256:=fun i=>by omega
   have cw:=fun W=>fwrite h (k-k/vQ f*vQ f) W (hR0 _) (fun hd=>by
    rw [hmod,← ten3]
    have:vQ f=10^(3*f.j):=by unfold vQ;rw [hd,if_pos rfl]
    rw [this] at hlt ⊢
    exact hlt)
   have ew:(if f.dn=true then dlP f.j (k-k/vQ f*vQ f) else k-k/vQ f*vQ f)=vPR f ⟨1,s,false,x,k⟩:=by
    rw [hmod]
    unfold vPR vQ
    simp only [show ¬ ((1:Int)=2) by decide,show ¬ ((1:Int)=3) by decide,if_false]
    cases f.dn<;>simp
   rw [ew] at cw
   have cj:=fun W=>fjoin h s _ _ W hPG hPR
   refine dfin_y _ _ _ _ _ _ _ _ _ W x s k _ _ (fun W=>cmp4 k _ W hk (by omega)) (by omega) (by omega) (by rw [dsgn_ge];omega) (k/vQ f) (by omega) (fun i=>k-i*vQ f) (fun i=>sgn ((k-i*vQ f:Nat):Int) (vQ f:Int)) (fun i=>if k-i*vQ f<vQ f then 1 else 0) (by simp) _ hl.1 (by omega) (by omega) _ ?_ ?_ ?_ ?_ cn cw cj
   ·show ∀ _,_
    intro i hi W
    exact cmp4 _ _ W (hR0 i) (by omega)
   ·show ∀ _,_
    intro i hi
    rw [dsgn_ge]
    have:(i+1)*vQ f<=k:=Nat.le_trans (Nat.mul_le_mul_right _ hi) (Nat.div_mul_le_self _ _)
    rw [Nat.add_mul,Nat.one_mul] at this
    omega
   ·show ¬ _
    rw [dsgn_ge,hmod];omega
   ·show ∀ _,_
    intro i hi W
    have:(i+1)*vQ f<=k:=Nat.le_trans (Nat.mul_le_mul_right _ hi) (Nat.div_mul_le_self _ _)
    have e:k-(i+1)*vQ f=k-i*vQ f-vQ f:=by rw [Nat.add_mul,Nat.one_mul];omega
    rw [Nat.add_mul,Nat.one_mul] at this
    have c:=sub4 (k-i*vQ f) (vQ f) W (hR0 i) (by omega)
    rw [A4_sub (by omega),← e] at c
    exact c
  ·rw [if_neg hi,if_neg hi]
   cases g
   ·by_cases a1:x<f.l
    ·exact dfin_l _ _ _ _ _ _ _ _ _ W x s k a1
    ·by_cases a2:f.l+3*2^f.w-1<x
     ·exact dfin_m _ _ _ _ _ _ _ _ _ W x s k a1 a2
     ·have a3:¬ k<10^(3*f.j+1):=fun q=>hi (Or.inl ⟨rfl,rfl,q,(by omega:f.l<=x),(by omega:x<=f.l+3*2^f.w-1)⟩)
      exact dfin_k _ _ _ _ _ _ _ _ _ W x s k _ (fun W=>cmp4 k _ W hk (by omega)) a1 a2 ((dsgn_ge _ _).2 a3)
   ·exact dfin_s _ _ _ _ _ _ _ _ _ W x s k
 ·by_cases h2:c=2
  ·subst h2
   refine dpack_2 _ _ _ _ _ _ _ _ _ w x s g k _ _ ?_
   intro W
   by_cases hi:vI f ⟨2,s,g,x,k⟩
   ·rw [if_pos hi,if_pos hi]
    have hPG:=vPG_lt h hi
    obtain ⟨_,hg,hk0,hx0⟩:(2:Int)=2/\g=false/\k=0/\x=0:=by
     rcases hi with hi|hi|hi
     ·exact absurd (show (2:Int)=1 from hi.1) (by decide)
     ·exact hi
     ·exact absurd (show (2:Int)=3 from hi.1) (by decide)
    subst hg hk0 hx0
    have cp:=fun W=>fspec h 30 false W (by decide)
    have cj:=fun W=>fjoin h s _ 0 W hPG (Nat.two_pow_pos _)
    rw [Z4_eq] at cj
    exact dinf_y _ _ _ _ _ _ _ _ _ W s _ _ cp cj
   ·rw [if_neg hi,if_neg hi]
    cases g
    ·by_cases a1:x=0
     ·subst a1
      refine dinf_k _ _ _ _ _ _ _ _ _ W s k (decide_eq_false fun q=>hi (Or.inr (Or.inl ⟨rfl,rfl,?_,rfl⟩)))
      refine A4_inj hk (by decide) fun i hi=>?_
      rw [W4_zero]
      rcases (show i=0∨i=1∨i=2∨i=3 by omega) with e|e|e|e<;>subst e
      ·exact q.1
      ·exact q.2.1
      ·exact q.2.2.1
      ·exact q.2.2.2
     ·exact dinf_x _ _ _ _ _ _ _ _ _ W x s k (by simp [a1])
    ·exact dinf_s _ _ _ _ _ _ _ _ _ W x s k
  ·by_cases h3:c=3
   ·subst h3
    refine dpack_3 _ _ _ _ _ _ _ _ _ w x s g k _ _ ?_
    intro W
    by_cases hi:vI f ⟨3,s,g,x,k⟩
    ·rw [if_pos hi,if_pos hi]
     have hPG:=vPG_lt h hi
     have hPR:=vPR_lt h hi
     obtain ⟨_,hx0,hk10⟩:(3:Int)=3/\x=0/\k<10^(3*f.j):=by
      rcases hi with hi|hi|hi
      ·exact absurd (show (3:Int)=1 from hi.1) (by decide)
      ·exact absurd (show (3:Int)=2 from hi.1) (by decide)
      ·exact hi
     subst hx0
     have cp:=fun W=>fspec h 31 g W (by decide)
     have cw:=fun W=>fwrite h k W hk (fun _=>by rw [← ten3];exact hk10)
     have cj:=fun W=>fjoin h s _ _ W hPG hPR
     exact dnan_y _ _ _ _ _ _ _ _ _ W s g k _ _ _ (fun W=>cmp4 k _ W hk (by omega)) _ (by rw [dsgn_ge];omega) cp cw cj
    ·rw [if_neg hi,if_neg hi]
     by_cases a1:x=0
     ·subst a1
      have a3:¬ k<10^(3*f.j):=fun q=>hi (Or.inr (Or.inr ⟨rfl,rfl,q⟩))
      exact dnan_k _ _ _ _ _ _ _ _ _ W s g k _ (fun W=>cmp4 k _ W hk (by omega)) ((dsgn_ge _ _).2 a3)
     ·exact dnan_x _ _ _ _ _ _ _ _ _ W x s g k (by simp [a1])
   ·have hi:¬ vI f ⟨c,s,g,x,k⟩:=by
     rintro (q|q|q)
     ·exact h1 q.1
     ·exact h2 q.1
     ·exact h3 q.1
    rw [if_neg hi,if_neg hi]
    exact dpack_0 _ _ _ _ _ _ _ _ _ w c x s g k (by simp [h1]) (by simp [h2]) (by simp [h3])
end
end
section
attribute [local irreducible] W4
theorem vU_good {n:Int}{B:Nat}(h:goodD n B):vUD n B=vM (fD n) B/\vUC n B=decide (vP (fD n) (vM (fD n) B)=B)/\vUE n B=0:=by
 unfold vUD vUC vUE
 exact ⟨if_pos h,decide_eq_decide.2 ⟨fun q=>q.2,fun q=>⟨h,q⟩⟩,if_pos h⟩
theorem vU_bad {n:Int}{B:Nat}(h:¬ goodD n B):vUD n B=⟨0,false,false,0,0⟩/\vUC n B=false/\vUE n B=1:=by
 unfold vUD vUC vUE
 exact ⟨if_neg h,decide_eq_false fun q=>h q.1,if_neg h⟩
end
theorem layof_ok (n:Int)(w:World)(hT:Tab w)(hd:decN n):CB 120 #[.int .i64 n] w (.tuple #[LF (fD n),.int .i64 0]):=by
 obtain ⟨hok,f1,f2,f3,f4,f5,f6,f7,f8⟩:=dec_fields hd
 have c1:=fun W hW=>ofv_any n W hW
 rw [show infoE n=0 from if_pos hok,f1,f2,f3,f4,f5,f6,f7,f8] at c1
 have h:=fD_ok n
 have hw:=h.w12
 generalize fD n=f at *
 have hG:((f.t+(f.w+6):Nat):Int)/16+9=((f.w+5:Nat):Int):=by rcases h with ⟨h1,h2,h3,h4⟩|⟨h1,h2,h3,h4⟩|⟨h1,h2,h3,h4⟩<;>rw [h1,h2]<;>rfl
 have cc:=fun W=>dten_v (3*f.j+1) W (by omega)
 have cp:=fun W=>dten_v (3*f.j) W (by omega)
 have e1:((3*f.j+1:Nat):Int)=3*(f.j:Int)+1:=by omega
 have e2:((3*f.j:Nat):Int)=3*(f.j:Int):=by omega
 have cw:=cp
 rw [e1] at cc
 rw [e2] at cp
 unfold LF
 cases e:f.dn
 ·rw [e] at c1
  have eB:vB f=0:=by unfold vB;rw [e,if_neg (by decide)]
  have eQ:vQ f=2^f.t:=by unfold vQ;rw [e,if_neg (by decide)]
  have cs:=fun W=>shl4 1 f.t W (by decide) (by omega)
  rw [Nat.one_mul] at cs
  rw [eB,eQ]
  exact dlay_p n _ n _ _ _ _ _ _ w hT _ _ _ _ (by omega) (by omega) hG (by omega) (by omega) (by omega) (by omega) (by omega) cc cp _ c1 (fun W=>of4 1 W (by decide)) cs
 ·rw [e] at c1
  have eB:vB f=f.w:=by unfold vB;rw [e,if_pos rfl]
  have eQ:vQ f=10^(3*f.j):=by unfold vQ;rw [e,if_pos rfl]
  rw [eB,eQ]
  rw [show ((3*f.j:Nat):Int)=3*(f.j:Int)+1-1 by omega] at cw
  exact dlay_d n _ n _ _ _ _ _ _ w hT _ _ _ _ (by omega) (by omega) hG (by omega) (by omega) (by omega) (by omega) (by omega) cc cp _ _ (by omega) (by omega) (by omega) c1 cw
theorem not_dec {n:Int}(h:¬ decN n):(okN n/\(baseN n != 10)=true)∨¬ okN n:=by
 by_cases hk:okN n
 ·left
  refine ⟨hk,?_⟩
  unfold decN at h
  rcases okN_cases hk with rfl|rfl|rfl|rfl|rfl|rfl|rfl|rfl|rfl|rfl|rfl|rfl<;>first|rfl|omega
 ·exact Or.inr hk
theorem layof_bad (n:Int)(w:World)(hT:Tab w)(hd:¬ decN n):CB 120 #[.int .i64 n] w (.tuple #[ZL,.int .i64 1]):=by
 have c1:=fun W hW=>ofv_any n W hW
 rcases not_dec hd with ⟨hk,hb⟩|hk
 ·rw [show infoE n=0 from if_pos hk] at c1
  exact dlay_b n _ _ _ _ _ _ _ _ _ _ w hT hb c1
 ·rw [show infoE n=1 from if_neg hk] at c1
  exact dlay_e n _ _ _ _ _ _ _ _ _ _ w hT 1 rfl c1
theorem fits_dec {n:Int}(B:Nat)(hd:decN n):(okN n/\B<2^(widthN n).toNat)↔goodD n B:=by
 have hF:=dec_fields hd
 rw [hF.2.2.2.1,Int.toNat_natCast]
 exact ⟨fun h=>⟨hd,h.2⟩,fun h=>⟨hF.1,h.2⟩⟩
theorem layfor_ok (n:Int)(B:Nat)(w:World)(hT:Tab w)(hB:B<2^256)(hg:goodD n B):CB 92 #[.int .i64 n,A4 B] w (.tuple #[LF (fD n),.int .i64 0]):=by
 have c1:=fun W hW=>fits4 n B hB W hW
 rw [decide_eq_true ((fits_dec B hg.1).2 hg)] at c1
 exact dfor_y n B w hT c1 _ _ _ _ _ _ _ _ _ (fun W hW=>layof_ok n W hW hg.1)
theorem layfor_bad (n:Int)(B:Nat)(w:World)(hT:Tab w)(hB:B<2^256)(hg:¬ goodD n B):CB 92 #[.int .i64 n,A4 B] w (.tuple #[ZL,.int .i64 1]):=by
 have c1:=fun W hW=>fits4 n B hB W hW
 by_cases hd:decN n
 ·rw [decide_eq_false (fun q=>hg ((fits_dec B hd).1 q))] at c1
  exact dfor_n n B w hT c1
 ·by_cases hf:okN n/\B<2^(widthN n).toNat
  ·rw [decide_eq_true hf] at c1
   exact dfor_b n B w hT c1 (fun W hW=>layof_bad n W hW hd)
  ·rw [decide_eq_false hf] at c1
   exact dfor_n n B w hT c1
theorem dunpk14 (n:Int)(B:Nat)(hB:B<2^256)(W:World)(hT:Tab W):CB 66 #[.int .i64 n,A4 B] W (.tuple #[(vUD n B).v,.bool (vUC n B),.int .i64 (vUE n B)]):=by
 by_cases hg:goodD n B
 ·obtain ⟨e1,e2,e3⟩:=vU_good hg
  rw [e1,e2,e3]
  have h:=fD_ok n
  have c3:=fun W=>fpack h (vM (fD n) B) W (vM_256 h B)
  rw [if_pos (vM_is h B),if_pos (vM_is h B)] at c3
  refine dunp_y n W hT _ _ _ _ _ _ _ _ _ B (fun W hW=>layfor_ok n B W hW hB hg) _ _ _ _ _ _ _ (fun W=>fmean h B W hB) c3 _ ?_
  exact eq_words (vP_256 h (vM_is h B)) hB
 ·obtain ⟨e1,e2,e3⟩:=vU_bad hg
  rw [e1,e2,e3,zero_v]
  exact dunp_n n W hT B (fun W hW=>layfor_bad n B W hW hB hg)
end Go.Proofs.YtgknbdehlmlipaaGreatDoor
