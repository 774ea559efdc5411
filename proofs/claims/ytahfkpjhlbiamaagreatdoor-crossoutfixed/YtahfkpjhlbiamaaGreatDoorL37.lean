/-
  Texts that the proof leans on.
-/
import Derived.Test.YtahfkpjhlbiamaaGreatDoorL35
import Derived.Test.YtahfkpjhlbiamaaGreatDoorL34
import Derived.Test.YtahfkpjhlbiamaaGreatDoorL25
import Derived.Test.YtahfkpjhlbiamaaGreatDoorL24
import Derived.Test.YtahfkpjhlbiamaaGreatDoorL1
import Derived.Test.YtahfkpjhlbiamaaGreatDoorL22
import Derived.Deep.Cut
import Derived.Deep.CutRange
import Derived.Deep.RegionWith
import Derived.Test.YtahfkpjhlbiamaaGreatDoorL29
import Derived.Test.YtahfkpjhlbiamaaGreatDoorL19
import Derived.Test.YtahfkpjhlbiamaaGreatDoorL21
import Derived.Test.YtahfkpjhlbiamaaGreatDoorL36
import Derived.Test.YtahfkpjhlbiamaaGreatDoorL32
import Derived.Test.YtahfkpjhlbiamaaGreatDoorL17
import Derived.Test.YtahfkpjhlbiamaaGreatDoorL15
import Derived.Test.YtahfkpjhlbiamaaGreatDoorL4
import Derived.Test.YtahfkpjhlbiamaaGreatDoorL23
import Derived.Test.YtahfkpjhlbiamaaGreatDoorL20
import Derived.Test.YtahfkpjhlbiamaaGreatDoorL6
import Derived.Test.YtahfkpjhlbiamaaGreatDoorL16
import Derived.Test.YtahfkpjhlbiamaaGreatDoorL14
import Derived.Test.YtahfkpjhlbiamaaGreatDoorL28
import Derived.Test.YtahfkpjhlbiamaaGreatDoorL3
import Derived.Test.YtahfkpjhlbiamaaGreatDoorL5
set_option linter.unusedVariables false
set_option linter.unusedSectionVars false
set_option linter.unusedSimpArgs false
set_option maxHeartbeats 8000000
set_option maxRecDepth 20000
namespace Go.Proofs.YtahfkpjhlbiamaaGreatDoor
open Go.RowKit
section
section
variable (x:Int)(vn vd:Value)(A KK:Nat)(w:World)(hx:-12000<=x/\x<=12000)
include hx
end
theorem ten_bl (k:Nat):bl (10^k)<=4*k+1:=by
 refine bl_le.2 ?_
 have h1:10^k<=16^k:=Nat.pow_le_pow_left (by decide) k
 have h2:(16:Nat)^k=2^(4*k):=by rw [Nat.pow_mul]
 have h3:(2:Nat)^(4*k)<2^(4*k+1):=Nat.pow_lt_pow_right (by decide) (by omega)
 omega
attribute [local irreducible] W4 NT NV
end
section
attribute [local irreducible] NT NV
section
variable (x:Int)(vn vd:Value)(A KK:Nat)(w:World)(hx:-60000<=x/\x<=60000)
include hx
end
theorem tnG_up {N D:Nat}{E:Int}(hD:0<D)(h:tnG N D E):3*E<=bl N:=by
 rcases Int.lt_or_le E 0 with q|q
 ·omega
 ·unfold tnG at h
  rw [show (-E).toNat=0 by omega,Nat.pow_zero,Nat.mul_one] at h
  have h1:10^E.toNat<=N:=Nat.le_trans (Nat.le_mul_of_pos_left _ hD) h
  have h2:N<2^bl N:=bl_le.1 (Nat.le_refl _)
  have h3:(8:Nat)^E.toNat<=10^E.toNat:=Nat.pow_le_pow_left (by decide) _
  have h4:(2:Nat)^(3*E.toNat)<2^bl N:=by
   rw [Nat.pow_mul]
   exact Nat.lt_of_le_of_lt (Nat.le_trans h3 h1) h2
  have:=(Nat.pow_lt_pow_iff_right (a:=2) (by decide)).1 h4
  omega
theorem tnG_dn {N D:Nat}{E:Int}(hN:0<N)(h:¬ tnG N D E):-(bl D:Int)<=3*E:=by
 rcases Int.lt_or_le 0 E with q|q
 ·omega
 ·unfold tnG at h
  rw [show E.toNat=0 by omega,Nat.pow_zero,Nat.mul_one] at h
  have h1:10^(-E).toNat<D:=by
   have:10^(-E).toNat<=N*10^(-E).toNat:=Nat.le_mul_of_pos_left _ hN
   omega
  have h2:D<2^bl D:=bl_le.1 (Nat.le_refl _)
  have h3:(8:Nat)^(-E).toNat<=10^(-E).toNat:=Nat.pow_le_pow_left (by decide) _
  have h4:(2:Nat)^(3*(-E).toNat)<2^bl D:=by
   rw [Nat.pow_mul]
   exact Nat.lt_of_le_of_lt (Nat.le_trans h3 (Nat.le_of_lt h1)) h2
  have:=(Nat.pow_lt_pow_iff_right (a:=2) (by decide)).1 h4
  omega
end
theorem tnE_find {N D:Nat}(lo:Int)(h:tnG N D lo):∀ k:Nat,¬ tnG N D (lo+k)->∃ E,TnE N D E
 | 0,h'=>absurd (by simpa using h) h'
 | k+1,h'=>by
  by_cases hk:tnG N D (lo+k)
  ·exact ⟨lo+k,hk,by rw [show lo+(k:Int)+1=lo+((k+1:Nat):Int) by omega];exact h'⟩
  ·exact tnE_find lo h k hk
theorem tnE_ex {N D:Nat}(hN:0<N)(hD:0<D):∃ E,TnE N D E:=by
 refine tnE_find (-(D:Int)) ?_ (N+D) ?_
 ·unfold tnG
  rw [show (-(D:Int)).toNat=0 by omega,Int.neg_neg,Int.toNat_natCast,Nat.pow_zero,Nat.mul_one]
  have h1:D<10^D:=Nat.lt_pow_self (by decide)
  exact Nat.le_trans (Nat.le_of_lt h1) (Nat.le_mul_of_pos_left _ hN)
 ·rw [show -(D:Int)+((N+D:Nat):Int)=(N:Int) by omega]
  unfold tnG
  rw [show (-(N:Int)).toNat=0 by omega,Int.toNat_natCast,Nat.pow_zero,Nat.mul_one]
  have h1:N<10^N:=Nat.lt_pow_self (by decide)
  have h2:10^N<=D*10^N:=Nat.le_mul_of_pos_left _ hD
  omega
def clT (x:Int):Int:=min (max x (-20000)) 20000
theorem ok_m {f:DF}(h:f.ok):-10000<=f.m/\f.m<=10000/\-10000<=f.l/\f.l<=10000/\f.l<=f.m/\2<=f.j/\f.j<=11:=by
 unfold DF.m
 rcases h with ⟨h1,h2,h3,h4⟩|⟨h1,h2,h3,h4⟩|⟨h1,h2,h3,h4⟩<;>rw [h2,h3,h4]<;>decide
noncomputable def tnX (N D:Nat):Int:=open Classical in if h:∃ E,TnE N D E then Classical.choose h else 0
theorem tnX_is {N D:Nat}(hN:0<N)(hD:0<D):TnE N D (tnX N D):=by
 have h:=tnE_ex hN hD
 unfold tnX
 rw [dif_pos h]
 exact Classical.choose_spec h
def rqE (n d:Int)(N D:Nat):Int:=if decN n/\knB d/\D≠0 then (if 25600<bl N∨25600<bl D then 4 else 0) else 1
noncomputable def rqD (n d:Int)(s:Bool)(N D:Nat)(x y:Int):Dat :=
 if rqE n d N D=0 then (if N=0 then ⟨1,s,false,min (max y (fD n).l) (fD n).m,0⟩ else dkD (fD n) d s (N*10^(clT x).toNat) (D*10^(-(clT x)).toNat) (tnX (N*10^(clT x).toNat) (D*10^(-(clT x)).toNat)) y) else ⟨0,false,false,0,0⟩
noncomputable def rqF (n d:Int)(s:Bool)(N D:Nat)(x:Int):Int :=
 if rqE n d N D=0 then (if N=0 then 0 else dkF (fD n) d s (N*10^(clT x).toNat) (D*10^(-(clT x)).toNat) (tnX (N*10^(clT x).toNat) (D*10^(-(clT x)).toNat))) else 0
theorem rq_zero {n d:Int}{N D:Nat}(h:rqE n d N D=0):decN n/\knB d/\D≠0/\bl N<=25600/\bl D<=25600:=by
 unfold rqE at h
 split at h
 ·rename_i h1
  split at h
  ·omega
  ·rename_i h2
   exact ⟨h1.1,h1.2.1,h1.2.2,by omega,by omega⟩
 ·omega
theorem rq_not {n d:Int}{s:Bool}{N D:Nat}{x y:Int}(h:rqE n d N D≠0):(rqD n d s N D x y).v=.agg #[.int .i64 0,.bool false,.bool false,.int .i64 0,.int .u64 0,.int .u64 0,.int .u64 0,.int .u64 0]/\rqF n d s N D x=0:=by
 unfold rqD rqF
 rw [if_neg h,if_neg h]
 refine ⟨?_,rfl⟩
 unfold Dat.v DV
 simp only [W4_zero]
def lwN (n x:Int)(k:Nat):Nat:=if nbB n x k then 1 else 2
def evK (k:Nat):Bool:=decide (k%2=0)
structure Shd (n x:Int) (k:Nat) (E:Int) (K:Nat):Prop where
 t0:tnP k x E
 t1:¬ tnP k x (E+1)
 st:stK (evK k) (4*k*oE x E) (lwN n x k*oE x E) (2*oE x E) (zE x E) K=true
 mn:∀ j,j<K->stK (evK k) (4*k*oE x E) (lwN n x k*oE x E) (2*oE x E) (zE x E) j=false
theorem bin_x {n x:Int}(hb:binN n)(h1:leastN n<=x)(h2:x<=mostN n):-16990<=x/\x<=16990:=by
 have h3:-16990<=leastN n/\mostN n<=16990:=by
  rcases bin_cases hb with rfl|rfl|rfl|rfl|rfl|rfl<;>decide
 omega
theorem gs_in {k:Nat}{x:Int}(hk:k<2^256)(hk0:k≠0)(hx:-16990<=x/\x<=16990):tnP k x (gsP k x)/\-6000<=gsP k x/\gsP k x<6000:=by
 have hb:bl k<=256:=bl_le.2 hk
 obtain ⟨b1,b2,b3⟩:=bl_bd hk0
 have e:((bl k-1:Nat):Int)=(bl k:Int)-1:=by omega
 have:=guess_ok (c:=k) (L:=bl k-1) (x:=x) b1 (by omega)
 rw [e] at this
 refine ⟨this,?_⟩
 unfold gsP
 by_cases h0:0<=(bl k:Int)-1+x
 ·rw [Int.tdiv_eq_ediv_of_nonneg (by omega)];omega
 ·rw [show ((bl k:Int)-1+x)*30103=-(-((bl k:Int)-1+x)*30103) by omega,Int.neg_tdiv,Int.tdiv_eq_ediv_of_nonneg (by omega)];omega
theorem Shd.ex {n x:Int}{k:Nat}(hk:k<2^256)(hk0:k≠0)(hx:-16990<=x/\x<=16990):∃ E K,Shd n x k E K:=by
 obtain ⟨g1,g2,g3⟩:=gs_in hk hk0 hx
 obtain ⟨E,e1,e2,e3,e4⟩:=tn_ex (6000-gsP k x).toNat (gsP k x) g1 (by rw [show gsP k x+((6000-gsP k x).toNat:Int)=6000 by omega];exact tn_top hk (by omega))
 have hl:0<lwN n x k*oE x E:=Nat.mul_pos (by unfold lwN;split<;>decide) (oE_pos _ _)
 obtain ⟨K,h1,h2⟩:=st_ex (c:=evK k) (R:=4*k*oE x E) (u:=2*oE x E) (zE_pos x E) hl
 exact ⟨E,K,e3,e4,h1,h2⟩
end Go.Proofs.YtahfkpjhlbiamaaGreatDoor

namespace Go.Proofs.YtahfkpjhlbiamaaGreatDoor
theorem ld_floor {N D j:Nat}(hj:j≠0)(hD:D≠0)(h1:j*D<=N)(h2:N<(j+1)*D):ld N D=(bl j:Int)-1:=by
 obtain ⟨k1,k2,k3⟩:=bl_bd hj
 have hDp:0<D:=Nat.pos_of_ne_zero hD
 have hN:N≠0:=by
  have:1*D<=j*D:=Nat.mul_le_mul_right _ (Nat.pos_of_ne_zero hj)
  omega
 obtain ⟨K,hK⟩:∃ K:Nat,K=bl D+2+bl N:=⟨_,rfl⟩
 obtain ⟨e1,e2⟩:=ld_bd hN hD K (by omega)
 have hl:(bl N:Int)-bl D-1<=ld N D/\ld N D<=(bl N:Int)-bl D:=by
  unfold ld;dsimp only;split<;>omega
 have a1:2^((K:Int)+ld N D).toNat<2^(bl j+K):=by
  refine Nat.lt_of_mul_lt_mul_left (a:=D) ?_
  refine Nat.lt_of_le_of_lt e1 ?_
  refine Nat.lt_of_lt_of_le (Nat.mul_lt_mul_of_pos_right h2 (Nat.two_pow_pos K)) ?_
  rw [Nat.pow_add,Nat.mul_comm D,Nat.mul_right_comm]
  exact Nat.mul_le_mul_right _ (Nat.mul_le_mul_right _ k2)
 have a2:2^(bl j-1+K)<2^((K:Int)+ld N D+1).toNat:=by
  refine Nat.lt_of_mul_lt_mul_left (a:=D) ?_
  refine Nat.lt_of_le_of_lt ?_ e2
  rw [Nat.pow_add,Nat.mul_comm D,Nat.mul_right_comm]
  exact Nat.mul_le_mul_right _ (Nat.le_trans (Nat.mul_le_mul_right _ k1) h1)
 have b1:=(Nat.pow_lt_pow_iff_right (by decide:1<2)).1 a1
 have b2:=(Nat.pow_lt_pow_iff_right (by decide:1<2)).1 a2
 omega
theorem ld_under {N D:Nat}(hN:N≠0)(hD:D≠0)(h:N<D):ld N D<=-1:=by
 obtain ⟨K,hK⟩:∃ K:Nat,K=bl D+2+bl N:=⟨_,rfl⟩
 obtain ⟨e1,e2⟩:=ld_bd hN hD K (by omega)
 have hl:(bl N:Int)-bl D-1<=ld N D/\ld N D<=(bl N:Int)-bl D:=by
  unfold ld;dsimp only;split<;>omega
 have a1:2^((K:Int)+ld N D).toNat<2^K:=by
  refine Nat.lt_of_mul_lt_mul_left (a:=D) ?_
  exact Nat.lt_of_le_of_lt e1 (Nat.mul_lt_mul_of_pos_right h (Nat.two_pow_pos K))
 have b1:=(Nat.pow_lt_pow_iff_right (by decide:1<2)).1 a1
 omega
theorem rP_floor {n:Int}(d:Int)(s:Bool){N D j:Nat}{q:Int}(hbn:binN n)(hq1:leastN n<=q)(hq2:q<=mostN n)(hj1:j<2^(fN n+1))(hj2:2^fN n<=j∨q=leastN n)
  (hN:2*N ≥ D) (hD:D≠0) (h1:j*D<=N) (h2:N<(j+1)*D) :
  rP n d s N D q=(q-leastN n).toNat*2^fN n+j+if faB d s (decide (j%2=1)) (N-j*D) D then 1 else 0:=by
 have hF:=bin_fm hbn
 have hm:=hF.m
 have hDp:0<D:=Nat.pos_of_ne_zero hD
 have hN0:N≠0:=by omega
 have hXQ:rX n N D q=q/\rQ n N D q=q:=by
  by_cases hj:j=0
  ·subst hj
   have hL:=ld_under hN0 hD (by omega)
   have hL2:-1<=ld N D:=by
    have:=ld_ge (N:=2*N) (D:=D) (k:=0) (by omega) hD (by omega)
    have e:ld (2*N) D=ld N D+1:=by
     have:=ld_shift hN0 hD 1 0
     rw [Nat.pow_zero,Nat.mul_one,Nat.pow_one,Nat.mul_comm N 2] at this
     omega
    omega
   have hql:q=leastN n:=by
    rcases hj2 with h|h
    ·have:=Nat.two_pow_pos (fN n);omega
    ·exact h
   have hX:rX n N D q=q:=by unfold rX wiZ;omega
   refine ⟨hX,?_⟩
   unfold rQ;rw [hX];omega
  ·have hL:=ld_floor hj hD h1 h2
   obtain ⟨k1,k2,k3⟩:=bl_bd hj
   have hbl:bl j<=fN n+1:=bl_le.2 hj1
   have hX:rX n N D q=q:=by unfold rX wiZ;rw [hL];omega
   refine ⟨hX,?_⟩
   unfold rQ;rw [hX,hL]
   rcases hj2 with h|h
   ·have:fN n<bl j:=bl_ge.2 h
    omega
   ·omega
 have hq0:nrQ N D (q-q)=j/\nrR N D (q-q)=N-j*D:=by
  unfold nrQ nrR
  rw [Int.sub_self]
  simp only [Int.toNat_zero,Nat.pow_zero,Nat.mul_one,Int.neg_zero]
  have e:N/D=j:=by
   refine Nat.div_eq_of_lt_le h1 h2
  refine ⟨e,?_⟩
  have:=Nat.div_add_mod N D
  rw [e,Nat.mul_comm] at this
  omega
 rw [rP_eq]
 unfold rB nrF
 rw [hXQ.1,hXQ.2,hq0.1,hq0.2,Int.sub_self]
 simp only [Int.toNat_zero,Nat.pow_zero,Nat.mul_one,Int.neg_zero]
theorem tp_above {n:Int}{s:Bool}{q:Int}{k:Nat}(hbn:binN n)(h:isD (fN n) (leastN n) (mostN n) ⟨1,s,false,q,k⟩):¬ tpN n<=(q-leastN n).toNat*2^fN n+k:=by
 have hF:=bin_fm hbn
 have hp:=pow_e hF.e2 hF.e15
 have hm:=hF.m
 rcases h with ⟨_,_,hk1,hx1,hx2,hx3⟩|⟨hc,_⟩|⟨hc,_⟩
 ·dsimp only at hk1 hx1 hx2 hx3
  unfold tpN
  have hpc:((2:Int)^eN n)=((2^eN n:Nat):Int):=by simp
  rw [hpc] at hp hm
  rw [Nat.pow_succ] at hk1
  have h3:((q-leastN n).toNat+2)*2^fN n<=(2^eN n-1)*2^fN n:=Nat.mul_le_mul_right _ (by omega)
  rw [Nat.add_mul] at h3
  omega
 ·exact absurd (show (1:Int)=2 from hc) (by decide)
 ·exact absurd (show (1:Int)=3 from hc) (by decide)
theorem rd_of_rP {n:Int}(d:Int){s:Bool}{q x:Int}{k N D:Nat}(hbn:binN n)(h:isD (fN n) (leastN n) (mostN n) ⟨1,s,false,q,k⟩)(hN:N≠0)(hD:D≠0)
  (hP:rP n d s N D x=(q-leastN n).toNat*2^fN n+k):rdV n d s N D x=pkV n ⟨1,s,false,q,k⟩/\(rdF n d s N D x=0∨rdF n d s N D x=8∨rdF n d s N D x=12):=by
 have hno:=tp_above hbn h
 rw [pk_fin hbn h,r_pat d s x hbn hN hD,r_flag d s x hbn hN hD,hP]
 unfold capV
 rw [if_neg hno,if_neg hno]
 refine ⟨rfl,?_⟩
 split
 ·exact Or.inl rfl
 ·split
  ·exact Or.inr (Or.inr rfl)
  ·exact Or.inr (Or.inl rfl)
theorem ev_odd (k:Nat)(h:k≠0):(evK k=true->k%2=0/\(k-1)%2=1)/\(evK k=false->k%2=1/\(k-1)%2=0):=by
 unfold evK
 simp
 omega
theorem rd_near {n:Int}{s:Bool}{q:Int}{k N D:Nat}(hbn:binN n)(h:isD (fN n) (leastN n) (mostN n) ⟨1,s,false,q,k⟩)(hk:k≠0)(hD:D≠0)
  (hw:(k*D<=N/\wiN (evK k) (4*N-4*(k*D)) (2*D)=true)∨(N<=k*D/\wiN (evK k) (4*(k*D)-4*N) (lwN n q k*D)=true)) :
  rdV n 0 s N D q=pkV n ⟨1,s,false,q,k⟩/\(rdF n 0 s N D q=0∨rdF n 0 s N D q=8∨rdF n 0 s N D q=12):=by
 have hDp:0<D:=Nat.pos_of_ne_zero hD
 have hkD:D<=k*D:=by
  have:=Nat.mul_le_mul_right D (Nat.pos_of_ne_zero hk)
  omega
 obtain ⟨hev,hod⟩:=ev_odd k hk
 obtain ⟨hk1,hx1,hx2,hx3⟩:k<2^(fN n+1)/\leastN n<=q/\q<=mostN n/\(2^fN n<=k∨q=leastN n):=by
  rcases h with ⟨_,_,hk1,hx1,hx2,hx3⟩|⟨hc,_⟩|⟨hc,_⟩
  ·exact ⟨hk1,hx1,hx2,hx3⟩
  ·exact absurd (show (1:Int)=2 from hc) (by decide)
  ·exact absurd (show (1:Int)=3 from hc) (by decide)
 have hi:(k+1)*D=k*D+D:=Nat.succ_mul _ _
 by_cases hge:k*D<=N
 ·-- at or above
  have hw':wiN (evK k) (4*N-4*(k*D)) (2*D)=true:=by
   rcases hw with h|h
   ·exact h.2
   ·have:4*N-4*(k*D)=0:=by omega
    rw [this];unfold wiN;rw [decide_eq_true (by omega:0<2*D)];rfl
  have hle:4*N-4*(k*D)<2*D∨(4*N-4*(k*D)=2*D/\evK k=true):=by
   unfold wiN at hw'
   simpa using hw'
  have hP:=rP_floor (n:=n) 0 s (N:=N) (D:=D) (j:=k) (q:=q) hbn hx1 hx2 hk1 hx3 (by omega) hD hge (by omega)
  have hf:faB 0 s (decide (k%2=1)) (N-k*D) D=false:=by
   unfold faB
   rcases hle with h|⟨h,he⟩
   ·simp;omega
   ·have:=(hev he).1
    simp;omega
  rw [hf] at hP
  exact rd_of_rP 0 hbn h (by omega) hD (by simpa using hP)
 ·have hlt:N<k*D:=by omega
  have hw':wiN (evK k) (4*(k*D)-4*N) (lwN n q k*D)=true:=by
   rcases hw with h|h
   ·exact absurd h.1 hge
   ·exact h.2
  have hle:4*(k*D)-4*N<lwN n q k*D∨(4*(k*D)-4*N=lwN n q k*D/\evK k=true):=by
   unfold wiN at hw'
   simpa using hw'
  obtain ⟨j,rfl⟩:∃ j,k=j+1:=⟨k-1,by omega⟩
  have hj:(j+1)*D=j*D+D:=Nat.succ_mul _ _
  rw [Nat.add_sub_cancel] at hev hod
  cases hnb:nbB n q (j+1)
  ·rw [show lwN n q (j+1)=2 by unfold lwN;rw [hnb];rfl] at hle
   have hj2:2^fN n<=j∨q=leastN n:=by
    unfold nbB at hnb
    simp at hnb
    rcases hx3 with h|h
    ·by_cases hq:q=leastN n
     ·exact Or.inr hq
     ·have:=hnb (by omega)
      omega
    ·exact Or.inr h
   have hP:=rP_floor (n:=n) 0 s (N:=N) (D:=D) (j:=j) (q:=q) hbn hx1 hx2 (by omega) hj2 (by omega) hD (by omega) (by omega)
   have hf:faB 0 s (decide (j%2=1)) (N-j*D) D=true:=by
    unfold faB
    rcases hle with h|⟨h,he⟩
    ·simp;omega
    ·have:=(hev he).2
     simp;omega
   rw [hf] at hP
   exact rd_of_rP 0 hbn h (by omega) hD (by rw [hP];simp;omega)
  ·rw [show lwN n q (j+1)=1 by unfold lwN;rw [hnb];rfl] at hle
   unfold nbB at hnb
   simp at hnb
   obtain ⟨hq,hkf⟩:=hnb
   have e:=rd_shift n 0 s N hD 1 0 (q-1)
   rw [Nat.pow_zero,Nat.mul_one,Nat.pow_one,show q-1+(((1:Nat):Int)-((0:Nat):Int))=q by omega] at e
   rw [← e.1,← e.2]
   have hj3:(2*j+1)*D=2*(j*D)+D:=by rw [Nat.add_mul,Nat.one_mul,Nat.mul_assoc]
   have hj4:(2*j+1+1)*D=2*(j*D)+D+D:=by rw [Nat.succ_mul,hj3]
   have h2f:2^(fN n+1)=2*2^fN n:=by rw [Nat.pow_succ,Nat.mul_comm]
   have hP:=rP_floor (n:=n) 0 s (N:=N*2) (D:=D) (j:=2*j+1) (q:=q-1) hbn (by omega) (by omega) (by omega) (Or.inl (by omega)) (by omega) hD (by omega) (by omega)
   have hf:faB 0 s (decide ((2*j+1)%2=1)) (N*2-(2*j+1)*D) D=true:=by
    unfold faB
    rw [hj3]
    simp;omega
   rw [hf] at hP
   refine rd_of_rP 0 hbn h (by omega) hD ?_
   rw [hP]
   have e3:(q-leastN n).toNat=(q-1-leastN n).toNat+1:=by omega
   have e4:((q-1-leastN n).toNat+1)*2^fN n=(q-1-leastN n).toNat*2^fN n+2^fN n:=Nat.succ_mul _ _
   rw [e3,e4]
   simp only [if_true]
   omega
end Go.Proofs.YtahfkpjhlbiamaaGreatDoor

namespace Go.Proofs.YtahfkpjhlbiamaaGreatDoor
open Go.RowKit
section
theorem W4_none {k:Nat}(hk:k<2^256):decide (W4 k 0=0/\W4 k 1=0/\W4 k 2=0/\W4 k 3=0)=decide (k=0):=by
 by_cases h:k=0
 ·subst h
  rw [decide_eq_true (by simp [W4_zero]),decide_eq_true rfl]
 ·rw [decide_eq_false h,decide_eq_false]
  rintro ⟨h0,h1,h2,h3⟩
  refine h (A4_inj hk (by decide) fun i hi=>?_)
  have:i=0∨i=1∨i=2∨i=3:=by omega
  rcases this with rfl|rfl|rfl|rfl
  ·rw [h0,W4_zero]
  ·rw [h1,W4_zero]
  ·rw [h2,W4_zero]
  ·rw [h3,W4_zero]
attribute [local irreducible] W4
end
theorem dV_ge {l:List UInt8}(hd:l.all dg=true)(h0:by_ l 0≠48)(hl:l≠[]):10^(l.length-1)<=dV l:=by
 cases l with
 | nil=>exact absurd rfl hl
 | cons c r =>
  have hr:r.all dg=true:=by rw [List.all_cons] at hd;simp at hd;simpa using hd.2
  have hc:dg c=true:=by rw [List.all_cons] at hd;simp at hd;exact hd.1
  unfold dg at hc
  have hc':=of_decide_eq_true hc
  rw [by_zero] at h0
  have h:=numV_app (s:=B (c::r)) (u:=B r) 1 (B r).size (fun i hi=>by rw [sb_by,sb_by,Nat.add_comm,by_succ])
  have hs:(B (c::r)).size=1+(B r).size:=by rw [B_size,B_size,List.length_cons];omega
  have h1:numV (B (c::r)) 1=(c.toNat:Int)-48:=by
   have:numV (B (c::r)) 1=numV (B (c::r)) 0*10+(sb (B (c::r)) 0-48):=rfl
   rw [this,sb_by,by_zero]
   have:numV (B (c::r)) 0=0:=rfl
   omega
  have hb:=(numV_bd _ (dig_B hr)).1
  have e:=(dV_lt hd).2
  rw [hs,h,h1] at e
  rw [B_size] at e hb
  have hp:((10:Int)^r.length)=((10^r.length:Nat):Int):=by simp
  rw [hp] at e
  show 10^(r.length+1-1)<=_
  rw [Nat.add_sub_cancel]
  have hm:1*((10^r.length:Nat):Int)<=((c.toNat:Int)-48)*((10^r.length:Nat):Int):=Int.mul_le_mul_of_nonneg_right (by omega) (Int.natCast_nonneg _)
  omega
theorem dV_nil:dV []=0:=rfl
theorem tex_len2 {c:Int}{s g:Bool}{d:List UInt8}{e:Int}(he:-9223372036854775808<=e/\e<=9223372036854775807):(texT c s g d e).length<=d.length+100:=by
 have hi:=Lib.itoa_length_le e he.1 he.2
 have h1:(bodT c g d e).length<=d.length+50:=by
  unfold bodT
  split
  ·simp
  ·split
   ·unfold nanT
    simp only [List.length_append,List.length_cons]
    split<;>split<;>simp<;>omega
   ·unfold finT dgT exT
    simp only [List.length_append]
    split<;>split<;>simp<;>omega
 unfold texT
 rw [List.length_append]
 split<;>simp<;>omega
def Prt.at (p:Prt)(s:Bool):Prt:=⟨p.cls,s,p.sn,p.dig,p.ex⟩
/-! Make by value -/
/-! Read by value -/
theorem decL_rev {V:Int}{L:Nat}(h0:0<V)(h:V<10^L):revL V (sizeL (dgt V) L)=decL V L:=by
 unfold decL revL
 rw [if_neg]
 intro e
 have:=lt_sizeL (Int.le_of_lt h0) L h
 rw [e] at this;simp at this;omega
theorem sb_nums {l:List Int}(hl:∀ v ∈ l,48<=v/\v<=57){i:Nat}(hi:i<l.length):sb (strOfNums l) i=l[i]:=by
 unfold sb
 rw [dif_pos (by rw [strOfNums_size];exact hi)]
 have h:=hl l[i] (List.getElem_mem hi)
 have e:(strOfNums l)[i]'(by rw [strOfNums_size];exact hi)=UInt8.ofNat l[i].toNat:=by
  show (strOfNums l).data[i]'_=_
  simp [strOfNums]
 rw [e]
 simp
 omega
theorem numV_rev {V:Int}{K:Nat}{u:ByteArray}(hu:∀ i,i<K->sb u i=48+dgt V (K-1-i))(h0:0<=V)(hV:V<10^K):∀ j,j<=K->numV u j=V/10^(K-j)
 | 0,_=>by rw [Nat.sub_zero,Int.ediv_eq_zero_of_lt h0 hV];rfl
 | j+1,h=>by
  have ih:=numV_rev hu h0 hV j (by omega)
  simp only [numV]
  rw [ih,hu j (by omega)]
  have e1:K-j=(K-(j+1))+1:=by omega
  have e2:K-1-j=K-(j+1):=by omega
  rw [e1,e2]
  unfold dgt
  rw [← div_div10]
  generalize V/10^(K-(j+1))=W
  omega
def dcD (V:Int)(L:Nat):List UInt8:=(strOfNums (revL V (sizeL (dgt V) L))).data.toList
theorem dcD_facts {V:Int}{L:Nat}(h0:0<V)(h:V<10^L):gdD (dcD V L)/\(dV (dcD V L):Int)=V/\(dcD V L).length<=L:=by
 have hK:=lt_sizeL (Int.le_of_lt h0) L h
 have hKp:0<sizeL (dgt V) L:=by
  rcases Nat.eq_zero_or_pos (sizeL (dgt V) L) with e|e
  ·rw [e] at hK;simp at hK;omega
  ·exact e
 have hKL:=sizeL_le (dgt V) L
 have htop:=sizeL_top L hKp
 have hB:B (dcD V L)=strOfNums (revL V (sizeL (dgt V) L)):=B_of _
 have hd:∀ v ∈ revL V (sizeL (dgt V) L),48<=v/\v<=57:=by
  intro v hv
  simp [revL] at hv
  obtain ⟨i,_,rfl⟩:=hv
  have:=dgt_bd V (sizeL (dgt V) L-1-i)
  omega
 have hrl:(revL V (sizeL (dgt V) L)).length=sizeL (dgt V) L:=by simp [revL]
 have hsz:(dcD V L).length=sizeL (dgt V) L:=by
  rw [← B_size,hB,strOfNums_size,hrl]
 have hby:∀ i,i<sizeL (dgt V) L->by_ (dcD V L) i=48+dgt V (sizeL (dgt V) L-1-i):=fun i hi=>by
  rw [← sb_by,hB,sb_nums hd (by rw [hrl];exact hi)];simp [revL]
 have hall:(dcD V L).all dg=true:=(all_dg _).2 fun i hi=>by
  rw [hsz] at hi
  rw [hby i hi]
  have:=dgt_bd V (sizeL (dgt V) L-1-i)
  omega
 refine ⟨Or.inr ⟨?_,?_⟩,?_,by omega⟩
 ·unfold isd
  rw [hall]
  have:dcD V L≠[]:=fun e=>by rw [e] at hsz;simp at hsz;omega
  simp [this]
 ·rw [hby 0 hKp,Nat.sub_zero]
  intro e
  exact htop (by omega)
 ·rw [(dV_lt hall).2,B_size,hsz]
  rw [numV_rev (K:=sizeL (dgt V) L) (fun i hi=>by rw [sb_by];exact hby i hi) (Int.le_of_lt h0) hK _ (Nat.le_refl _)]
  simp
section
theorem NT.head {K V:Nat}{v:Value}{w:World}(h:NT K V v w)(hV:V≠0):∃ g k cap z0,v=.slice (some ⟨g,0,none⟩) k cap/\0<k/\k<=K/\g<w.heap.size/\w.cell? ⟨g,0,none⟩=some (.int .u64 z0)/\0<=z0/\z0<=18446744073709551615/\z0%2=((V%2:Nat):Int):=by
 have hz:=h.zero
 obtain ⟨g,k,cap,z,rfl,hk,⟨n1,n2,n3,n4,n5⟩,hv,hs⟩:=h
 obtain ⟨g',k',cap',e,_,hz'⟩:=hz
 cases e
 have hk0:k≠0:=fun e=>hV (hz'.1 e)
 rcases n5 with ⟨n5,_⟩|⟨b,off,e,hb,hc⟩
 ·cases n5
 ·cases e
  have hc0:=hc 0 (by omega)
  have hw:=n3 0
  have hp:=val_odd (by omega:0<k) hv
  exact ⟨g,k,cap,z 0,rfl,by omega,hk,hb,hc0,hw.1,hw.2,by omega⟩
attribute [local irreducible] W4 Nz Nt NT NV
end
theorem dV_snoc {l:List UInt8}{c:UInt8}(hl:l.all dg=true)(hc:dg c=true):dV (l++[c])=10*dV l+(c.toNat-48):=by
 have hall:(l++[c]).all dg=true:=by rw [List.all_append,hl];simp [hc]
 have h1:=(dV_lt hall).2
 have h2:=(dV_lt hl).2
 have hcd:48<=c.toNat/\c.toNat<=57:=of_decide_eq_true hc
 have hA:=numV_app (s:=B (l++[c])) (u:=B [c]) l.length 1 (fun i hi=>by
  rw [sb_by,sb_by,by_app_at])
 have hC:=numV_app (s:=B (l++[c])) (u:=B l) 0 l.length (fun i hi=>by
  rw [sb_by,sb_by,Nat.zero_add]
  unfold by_
  have hi2:i<(l++[c]).length:=by rw [List.length_append];omega
  rw [dif_pos hi,dif_pos hi2,List.getElem_append_left hi])
 have e0:numV (B (l++[c])) 0=0:=rfl
 have e1:numV (B [c]) 1=(c.toNat:Int)-48:=by
  have:numV (B [c]) 1=numV (B [c]) 0*10+(sb (B [c]) 0-48):=rfl
  rw [this,sb_by,by_zero]
  have:numV (B [c]) 0=0:=rfl
  omega
 rw [Nat.zero_add,e0,Int.zero_mul,Int.zero_add] at hC
 rw [B_size] at h1 h2
 rw [show (l++[c]).length=l.length+1 by simp,hA,hC,e1,← h2] at h1
 omega
theorem dg_uniq:∀ (n:Nat) (l l':List UInt8),l.length=n->l'.length=n->l.all dg=true->l'.all dg=true->dV l=dV l'->l=l'
 | 0,l,l',h,h',_,_,_=>by rw [List.length_eq_zero_iff.1 h,List.length_eq_zero_iff.1 h']
 | n+1,l,l',h,h',hd,hd',hv=>by
  rcases List.eq_nil_or_concat l with rfl|⟨m,c,rfl⟩
  ·cases h
  ·rcases List.eq_nil_or_concat l' with rfl|⟨m',c',rfl⟩
   ·cases h'
   ·rw [List.concat_eq_append] at *
    rw [List.concat_eq_append] at *
    rw [List.all_append] at hd hd'
    simp at hd hd'
    have hm:m.all dg=true:=List.all_eq_true.2 hd.1
    have hm':m'.all dg=true:=List.all_eq_true.2 hd'.1
    rw [dV_snoc hm hd.2,dV_snoc hm' hd'.2] at hv
    have c1:48<=c.toNat/\c.toNat<=57:=of_decide_eq_true hd.2
    have c2:48<=c'.toNat/\c'.toNat<=57:=of_decide_eq_true hd'.2
    have e1:dV m=dV m':=by omega
    have e2:c=c':=UInt8.toNat_inj.1 (by omega)
    rw [dg_uniq n m m' (by simp at h;exact h) (by simp at h';exact h') hm hm' e1,e2]
theorem gd_uniq {l l':List UInt8}(h:gdD l)(h':gdD l')(hv:dV l=dV l'):l=l':=by
 rcases h with rfl|⟨h1,h2⟩
 ·rcases h' with rfl|⟨h1',h2'⟩
  ·rfl
  ·unfold isd at h1'
   simp at h1'
   have:=dV_ge (List.all_eq_true.2 h1'.1) h2' h1'.2
   rw [← hv,dV_nil] at this
   have:=Nat.pow_pos (n:=l'.length-1) (by decide:0<10)
   omega
 ·rcases h' with rfl|⟨h1',h2'⟩
  ·unfold isd at h1
   simp at h1
   have:=dV_ge (List.all_eq_true.2 h1.1) h2 h1.2
   rw [hv,dV_nil] at this
   have:=Nat.pow_pos (n:=l.length-1) (by decide:0<10)
   omega
  ·unfold isd at h1 h1'
   simp at h1 h1'
   have a1:=List.all_eq_true.2 h1.1
   have a2:=List.all_eq_true.2 h1'.1
   have g1:=dV_ge a1 h2 h1.2
   have g2:=dV_ge a2 h2' h1'.2
   have l1:=(dV_lt a1).1
   have l2:=(dV_lt a2).1
   have p1:0<l.length:=List.length_pos_iff.2 h1.2
   have p2:0<l'.length:=List.length_pos_iff.2 h1'.2
   have hlen:l.length=l'.length:=by
    rcases Nat.lt_trichotomy l.length l'.length with h|h|h
    ·have:=Nat.pow_le_pow_right (n:=10) (by decide) (show l.length<=l'.length-1 by omega)
     omega
    ·exact h
    ·have:=Nat.pow_le_pow_right (n:=10) (by decide) (show l'.length<=l.length-1 by omega)
     omega
   exact dg_uniq _ l l' hlen rfl a1 a2 hv
theorem un_isD {n:Int}{B:Nat}(h:goodN n B):isD (fN n) (leastN n) (mostN n) (unD n B):=by
 have hF:=bin_fm h.1
 obtain ⟨S,E,F,hS,hE,hFr,hB⟩:=fields_in h.2
 have hu:unD n B=mean (fN n) (eN n) (leastN n) S E F:=by
  unfold unD;rw [if_pos h,hB,unp_mean _ hS hE hFr]
 rw [hu]
 exact (mean_isD hF hS hE hFr).1
def finP (n:Int)(V:Nat):Prop:=goodN n V/\(unD n V).c=1/\(unD n V).k≠0
theorem fin_facts {n:Int}{V:Nat}(h:finP n V):binN n/\(unD n V).k<2^256/\-16990<=(unD n V).x/\(unD n V).x<=16990/\isD (fN n) (leastN n) (mostN n) (unD n V):=by
 obtain ⟨h1,h2,h3⟩:=h
 have hb:=h1.1
 have hd:=un_isD h1
 have hf:=(bin_fm hb).f240
 rcases hd with ⟨e1,e2,e3,e4,e5,e6⟩|⟨e1,_⟩|⟨e1,_⟩
 ·have hx:=bin_x hb e4 e5
  refine ⟨hb,Nat.lt_of_lt_of_le e3 (Nat.pow_le_pow_right (by decide) (by omega)),hx.1,hx.2,Or.inl ⟨e1,e2,e3,e4,e5,e6⟩⟩
 ·omega
 ·omega
section
theorem itoa_brief {e:Int}(he:-100000<=e/\e<=100000):(Lib.itoa e).length<=21:=by
 have:=Lib.itoa_length_le e (by omega) (by omega)
 omega
def unT (D:List UInt8)(e:Int):List UInt8:=((D.take 1++if 1<D.length then [46]++D.drop 1 else [])++[101])++Lib.itoa e
theorem unT_brief {D:List UInt8}{e:Int}(he:-100000<=e/\e<=100000):(unT D e).length<=D.length+25:=by
 have:=itoa_brief he
 unfold unT
 rw [List.length_append,List.length_append,List.length_append,List.length_take]
 split
 ·simp;omega
 ·simp;omega
theorem itoa_short {e:Int}(he:-100000<=e/\e<=100000):(Lib.itoa e).length<=100:=by
 have:=Lib.itoa_length_le e (by omega) (by omega)
 omega
attribute [local irreducible] W4
end
section
section
variable (D:List UInt8)(e:Int)(w:World)(hT10:Tb10 w)(he:-100000<=e/\e<=100000)
include hT10 he
theorem ltext_1 (hD:D.length=1):CB 46 #[.string (B D),.int .i64 e] w (.string (B (unT D e))):=by
 have hi:=itoa_short he
 have c53:=fun W (h:Tb10 W)=>itoa_any e W (by omega) h
 have htl:=B_toList
 have hsz:(B D).size=1:=by rw [B_size,hD]
 have HU:Hid (unT D e=(D++[101])++Lib.itoa e):=by
  show _=_
  unfold unT
  rw [if_neg (by omega),List.append_nil,List.take_of_length_le (by omega)]
 have ht:(B D).extract 0 1=B D:=by rw [B_ext,List.drop_zero,List.take_of_length_le (by omega)]
 have p0:B D++(⟨#[101]⟩:ByteArray)=B (D++[101]):=B_app D [101]
 have z0:(B (D++[101])).size=2:=by rw [B_size,List.length_append,hD];rfl
 have p1:B (D++[101])++B (Lib.itoa e)=B ((D++[101])++Lib.itoa e):=B_app _ _
 obtain ⟨il,hil⟩:∃ il,(Lib.itoa e).length=il:=⟨_,rfl⟩
 have z2:(B (Lib.itoa e)).size=il:=by rw [B_size];exact hil
 have hil2:il<=100:=by omega
 have hemp:D.isEmpty=false:=by cases D with|nil=>exact absurd hD (by decide)|cons y ys=>rfl
 clear hD hi hil
 generalize hL0:D++[101]=L0 at *
 clear hL0
 generalize Lib.itoa e=I at *
 generalize hL1:L0++I=L1 at *
 clear hL1
 go_enter Tryz.func46,Tryz.ntmps46
 go_wp2_with (go_at_call 100;refine (c53 _ (hT10.next bgo)).mono ?_;rintro r w3 ⟨rfl,hb3⟩)
 go_ret
 exact ⟨by rw [HU.out];rfl,hb3⟩
theorem ltext_m (hD:1<D.length)(hD2:D.length<=4000):CB 46 #[.string (B D),.int .i64 e] w (.string (B (unT D e))):=by
 have hi:=itoa_short he
 have c53:=fun W (h:Tb10 W)=>itoa_any e W (by omega) h
 have htl:=B_toList
 obtain ⟨m,hm⟩:∃ m,D.length=m+2:=⟨D.length-2,by omega⟩
 have hsz:(B D).size=m+2:=by rw [B_size,hm]
 have HU:Hid (unT D e=((D.take 1++([46]++D.drop 1))++[101])++Lib.itoa e):=by
  show _=_
  unfold unT
  rw [if_pos hD]
 have ht:(B D).extract 0 1=B (D.take 1):=by rw [B_ext,List.drop_zero]
 have hd:(B D).extract 1 (m+2)=B (D.drop 1):=by have:=B_drop D 1;rw [hsz] at this;exact this
 have hm2:m<=4000:=by omega
 have q0:(⟨#[46]⟩:ByteArray)++B (D.drop 1)=B ([46]++D.drop 1):=B_app [46] _
 have y0:(B (D.drop 1)).size=m+1:=by rw [B_size,List.length_drop,hm];omega
 have y1:(B ([46]++D.drop 1)).size=m+2:=by rw [B_size,List.length_append,List.length_drop,hm];simp;omega
 have y2:(B (D.take 1)).size=1:=by rw [B_size,List.length_take,hm];omega
 have p0:B (D.take 1)++B ([46]++D.drop 1)=B (D.take 1++([46]++D.drop 1)):=B_app _ _
 have z0:(B (D.take 1++([46]++D.drop 1))).size=m+3:=by rw [B_size] at y1 y2 ⊢;rw [List.length_append,y1,y2];omega
 have p1:B (D.take 1++([46]++D.drop 1))++(⟨#[101]⟩:ByteArray)=B ((D.take 1++([46]++D.drop 1))++[101]):=B_app _ [101]
 have z1:(B ((D.take 1++([46]++D.drop 1))++[101])).size=m+4:=by rw [B_size] at z0 ⊢;rw [List.length_append,z0];rfl
 have p2:B ((D.take 1++([46]++D.drop 1))++[101])++B (Lib.itoa e)=B (((D.take 1++([46]++D.drop 1))++[101])++Lib.itoa e):=B_app _ _
 obtain ⟨il,hil⟩:∃ il,(Lib.itoa e).length=il:=⟨_,rfl⟩
 have z2:(B (Lib.itoa e)).size=il:=by rw [B_size];exact hil
 have hil2:il<=100:=by omega
 have hemp:D.isEmpty=false:=by cases D with|nil=>exact absurd hD (by decide)|cons y ys=>rfl
 clear hD hD2 hm hi hil
 generalize Lib.itoa e=I at *
 generalize hL3:((D.take 1++([46]++D.drop 1))++[101])++I=L3 at *
 generalize hL2:(D.take 1++([46]++D.drop 1))++[101]=L2 at *
 generalize hL1:D.take 1++([46]++D.drop 1)=L1 at *
 generalize hL0:[46]++D.drop 1=L0 at *
 generalize hA:D.take 1=A0 at *
 generalize hB:D.drop 1=B0 at *
 clear hL3 hL2 hL1 hL0 hA hB
 go_enter Tryz.func46,Tryz.ntmps46
 go_wp2_with (go_at_call 100;refine (c53 _ (hT10.next bgo)).mono ?_;rintro r w3 ⟨rfl,hb3⟩)
 go_ret
 exact ⟨by rw [HU.out];rfl,hb3⟩
end
theorem ltext_v (D:List UInt8)(e:Int)(w:World)(hT10:Tb10 w)(he:-100000<=e/\e<=100000)(hD:1<=D.length)(hD2:D.length<=4000):CB 46 #[.string (B D),.int .i64 e] w (.string (B (unT D e))):=by
 by_cases h:D.length=1
 ·exact ltext_1 D e w hT10 he h
 ·exact ltext_m D e w hT10 he (by omega) hD2
end
section
def sgL (s:Bool):List UInt8:=if s then [45] else []
attribute [local irreducible] W4
end
section
def dcL (k:Nat):List UInt8:=if k=0 then [] else dcD (k:Int) 660
theorem k660 {k:Nat}(hk:k<2^256):(k:Int)<10^660:=by
 have h:(2:Nat)^256<=10^100:=by decide
 have h2:(10:Int)^100<=10^660:=by decide +kernel
 have h3:((10^100:Nat):Int)=(10:Int)^100:=by decide
 omega
theorem dcL_facts {k:Nat}(hk:k<2^256):gdD (dcL k)/\dV (dcL k)=k/\(dcL k).length<=660:=by
 unfold dcL
 by_cases h:k=0
 ·rw [if_pos h];exact ⟨Or.inl rfl,by rw [h,dV_nil],by decide⟩
 ·rw [if_neg h]
  obtain ⟨h1,h2,h3⟩:=dcD_facts (V:=(k:Int)) (L:=660) (by omega) (k660 hk)
  exact ⟨h1,by omega,h3⟩
theorem ndig_v {K k:Nat}{v:Value}{w:World}(hK:K<=1000)(hk:k<2^256)(hk0:k≠0)(h:Nt K k v w):CB 48 #[v] w (.tuple #[.string (B (dcL k)),.int .i64 0]):=by
 obtain ⟨a,n,c,z,rfl,hn,hN,hz⟩:=h
 have hle:=sizeL_le z n
 refine (ndigits_any a n c z w (by omega) hN (by omega)).mono fun r w' ⟨L,hL,he,hB⟩=>⟨?_,hB⟩
 rw [he,hz] at *
 have h0:(0:Int)<k:=by omega
 have h660:=k660 hk
 rw [decL_more (Int.le_of_lt h0) hL h660,← decL_rev h0 h660]
 unfold dcL
 rw [if_neg hk0]
 unfold dcD
 rw [B_of]
attribute [local irreducible] W4 Nt
end
theorem ex_any (e:Int)(h:-1000000000<=e/\e<=1000000000):exB (101::Lib.itoa e)=true/\exI (101::Lib.itoa e)=e/\Lib.hasPrefix (101::Lib.itoa e) [46]=false/\dgs (101::Lib.itoa e)=[]/\rst (101::Lib.itoa e)=101::Lib.itoa e:=by
 by_cases h0:e=0
 ·subst h0
  have e0:Lib.itoa 0=[48]:=by kernel_rfl
  rw [e0]
  exact ⟨by decide,by decide,by decide,by decide,by decide⟩
 ·have:=exT_cut e h
  unfold exT at this
  rw [if_neg h0] at this
  exact this
theorem clamp_id {e:Int}(h:-1000000000<=e/\e<=1000000000):clampE e=e:=by unfold clampE;omega
theorem un_cut (s:Bool){c:UInt8}{r:List UInt8}{e:Int}(hc:dg c=true)(hc0:(c.toNat:Int)≠48)(hr:r.all dg=true)(hl:r.length<=3950)(he:-100000<=e/\e<=100000) :
  cutP (sgL s++unT (c::r) e)=some ⟨1,s,false,c::r,e-r.length⟩:=by
 have hlen:(unT (c::r) e).length<=r.length+26:=by have:=unT_brief (D:=c::r) he;rw [List.length_cons] at this;omega
 obtain ⟨x1,x2,x3,x4,x5⟩:=ex_any e (by omega)
 have hcn:=dg_nat hc
 have hall:[c].all dg=true:=by simp [hc]
 have hbar:bar (c::r)=c::r:=by rw [bar_cons,if_neg hc0]
 have key:finB (unT (c::r) e)=true/\finD (unT (c::r) e)=c::r/\finE (unT (c::r) e)=e-r.length/\∃ t,unT (c::r) e=c::t:=by
  cases hr0:r with
  | nil =>
   have hu:unT [c] e=[c]++(101::Lib.itoa e):=rfl
   rw [hu]
   obtain ⟨d1,d2⟩:=dgs_app2 (m:=101::Lib.itoa e) hall x4
   have f1:frac ([c]++101::Lib.itoa e)=[]:=by unfold frac;rw [d2,x3];rfl
   have f2:behind ([c]++101::Lib.itoa e)=101::Lib.itoa e:=by unfold behind;rw [d2,x3];rfl
   refine ⟨?_,?_,?_,_,rfl⟩
   ·unfold finB;rw [f1,f2,x1,d1];rfl
   ·unfold finD;rw [f1,d1]
    rw [hr0] at hbar
    exact hbar
   ·unfold finE;rw [f1,f2,x2]
    exact clamp_id (by simp;omega)
  | cons a t =>
   rw [← hr0]
   have hu:unT (c::r) e=[c]++46::(r++(101::Lib.itoa e)):=by
    unfold unT
    rw [hr0]
    simp
   rw [hu]
   obtain ⟨d1,d2⟩:=dgs_app2 (m:=46::(r++(101::Lib.itoa e))) hall rfl
   obtain ⟨d3,d4⟩:=dgs_app2 (m:=101::Lib.itoa e) hr x4
   have e1:Lib.hasPrefix (46::(r++(101::Lib.itoa e))) [46]=true:=rfl
   have e2:Lib.trimPrefix (46::(r++(101::Lib.itoa e))) [46]=r++(101::Lib.itoa e):=rfl
   have f1:frac ([c]++46::(r++(101::Lib.itoa e)))=r:=by unfold frac;rw [d2,e1,e2,d3];rfl
   have f2:behind ([c]++46::(r++(101::Lib.itoa e)))=101::Lib.itoa e:=by unfold behind;rw [d2,e1,e2,d4];rfl
   refine ⟨?_,?_,?_,_,rfl⟩
   ·unfold finB;rw [f1,f2,x1,d1];rfl
   ·unfold finD;rw [f1,d1]
    exact hbar
   ·unfold finE;rw [f1,f2,x2]
    exact clamp_id (by omega)
 obtain ⟨k1,k2,k3,t,k4⟩:=key
 unfold cutP
 have hs:(sgL s++unT (c::r) e).length<=4000:=by
  rw [List.length_append]
  have:(sgL s).length<=1:=by cases s<;>decide
  omega
 rw [if_neg (by omega)]
 have hsg:gsgB (sgL s++unT (c::r) e)=s/\sgR (sgL s++unT (c::r) e)=unT (c::r) e:=by
  rw [k4]
  exact sig_app s c t ⟨by omega,by omega⟩
 rw [hsg.1,hsg.2]
 unfold bodP
 rw [if_pos k1,k2,k3]
theorem tn_far {k:Nat}{x E:Int}(hk:k<2^256)(hx:x<=16990)(h:tnP k x E):E<=5191:=by
 apply Classical.byContradiction
 intro hE
 have hE:5192<=E:=by omega
 unfold tnP zE oE at h
 have e1:(-E).toNat=0:=by omega
 rw [e1,Nat.pow_zero,Nat.mul_one] at h
 obtain ⟨t,ht⟩:∃ t:Nat,t=5192:=⟨_,rfl⟩
 obtain ⟨a,ha⟩:∃ a:Nat,a=16990:=⟨_,rfl⟩
 have h1:10^t<=10^E.toNat:=Nat.pow_le_pow_right (by decide) (by omega)
 have h2:2^x.toNat<=2^a:=Nat.pow_le_pow_right (by decide) (by omega)
 have h3:1<=2^(-x).toNat:=Nat.two_pow_pos _
 have h4:2^256*2^a<=10^t:=by
  rw [← Nat.pow_add]
  exact two_le_ten (by omega)
 have h5:k*2^x.toNat<2^256*2^a:=Nat.lt_of_lt_of_le (Nat.mul_lt_mul_of_pos_right hk (Nat.two_pow_pos _)) (Nat.mul_le_mul_left _ h2)
 have h6:1*10^E.toNat<=2^(-x).toNat*10^E.toNat:=Nat.mul_le_mul_right _ h3
 rw [Nat.mul_assoc,Nat.mul_assoc] at h
 have h7:=Nat.le_of_mul_le_mul_left h (by decide:0<4)
 rw [Nat.one_mul] at h6
 exact absurd (Nat.lt_of_le_of_lt (Nat.le_trans h1 (Nat.le_trans h6 h7)) (Nat.lt_of_lt_of_le h5 h4)) (Nat.lt_irrefl _)
end Go.Proofs.YtahfkpjhlbiamaaGreatDoor

namespace Go.Proofs.YtahfkpjhlbiamaaGreatDoor
theorem dec_cut (s:Bool){D:List UInt8}{e ex:Int}(hg:gdD D)(h0:D≠[])(hl:D.length<=3950)(he:-50000<=ex/\ex<=50000)(hE:e=ex+D.length-1) :
  cutP (sgL s++unT D e)=some ⟨1,s,false,D,ex⟩:=by
 cases D with
 | nil=>exact absurd rfl h0
 | cons c r =>
  have ha:=gdD_all hg
  rw [List.all_cons,Bool.and_eq_true] at ha
  have hc0:(c.toNat:Int)≠48:=by
   rcases hg with h|⟨_,h⟩
   ·cases h
   ·rw [by_zero] at h;exact h
  rw [List.length_cons] at hl hE
  have:=un_cut s (e:=e) ha.1 hc0 ha.2 (by omega) (by omega)
  rw [this,hE]
  congr 2
  omega
end Go.Proofs.YtahfkpjhlbiamaaGreatDoor

namespace Go.Proofs.YtahfkpjhlbiamaaGreatDoor
open Go.RowKit
theorem tnG_ab (N D:Nat){e:Int}{a b:Nat}(h:(a:Int)-b=e):tnG N D e↔D*10^a<=N*10^b:=by
 obtain ⟨k,hk⟩:∃ k:Nat,a=e.toNat+k:=⟨a-e.toNat,by omega⟩
 have hb:b=(-e).toNat+k:=by omega
 unfold tnG
 rw [hk,hb,Nat.pow_add,Nat.pow_add,← Nat.mul_assoc,← Nat.mul_assoc]
 exact (Nat.mul_le_mul_right_iff (ten_pos k)).symm
theorem tnG_sh (N D:Nat)(e x:Int):tnG (N*10^x.toNat) (D*10^(-x).toNat) (e+x)↔tnG N D e:=by
 rw [tnG_ab N D (show (((e+x).toNat+(-x).toNat:Nat):Int)-(((-(e+x)).toNat+x.toNat:Nat):Int)=e by omega)]
 unfold tnG
 rw [Nat.pow_add,Nat.pow_add,Nat.mul_assoc,Nat.mul_assoc,Nat.mul_comm (10^(e+x).toNat),Nat.mul_comm (10^(-(e+x)).toNat)]
theorem TnE_sh {N D:Nat}{L:Int}(h:TnE N D L)(x:Int):TnE (N*10^x.toNat) (D*10^(-x).toNat) (L+x):=by
 unfold TnE at *
 rw [show L+x+1=L+1+x by omega,tnG_sh,tnG_sh]
 exact h
theorem tnX_sh {N D:Nat}{L:Int}(hN:0<N)(hD:0<D)(h:TnE N D L)(x:Int):tnX (N*10^x.toNat) (D*10^(-x).toNat)=L+x :=
 (tnX_is (Nat.mul_pos hN (ten_pos _)) (Nat.mul_pos hD (ten_pos _))).only (TnE_sh h x)
theorem dk_at (N D:Nat)(x q:Int):∃ k,0<k/\dkA (N*10^x.toNat) q=N*10^(x-q).toNat*k/\dkZ (D*10^(-x).toNat) q=D*10^(-(x-q)).toNat*k:=by
 refine ⟨10^(x.toNat+(-q).toNat-(x-q).toNat),ten_pos _,?_,?_⟩
 ·unfold dkA
  rw [Nat.mul_assoc,Nat.mul_assoc,← Nat.pow_add,← Nat.pow_add]
  congr 2
  omega
 ·unfold dkZ
  rw [Nat.mul_assoc,Nat.mul_assoc,← Nat.pow_add,← Nat.pow_add]
  congr 2
  omega
theorem dkC0_at (f:DF)(d:Int)(s:Bool)(N D:Nat)(x E:Int):dkC0 f d s (N*10^x.toNat) (D*10^(-x).toNat) E=whC d s (N*10^(x-dkQ f E).toNat) (D*10^(-(x-dkQ f E)).toNat):=by
 obtain ⟨k,hk,h1,h2⟩:=dk_at N D x (dkQ f E)
 unfold dkC0
 rw [h1,h2,whC_mul _ _ _ _ hk]
theorem dkX_at (f:DF)(N D:Nat)(x E:Int):dkX f (N*10^x.toNat) (D*10^(-x).toNat) E=decide (N*10^(x-dkQ f E).toNat%(D*10^(-(x-dkQ f E)).toNat)=0):=by
 obtain ⟨k,hk,h1,h2⟩:=dk_at N D x (dkQ f E)
 unfold dkX
 rw [h1,h2,Nat.mul_mod_mul_right]
 refine decide_eq_decide.2 ?_
 rw [Nat.mul_eq_zero]
 omega
theorem whC_low (d:Int)(s:Bool){A Z:Nat}(hA:0<A)(h:2*A<Z):whC d s A Z=if d≠0/\d≠1/\inB d s=true then 1 else 0:=by
 unfold whC faB
 rw [Nat.div_eq_of_lt (by omega),Nat.mod_eq_of_lt (by omega),if_neg (show ¬ A=0 by omega)]
 by_cases h0:d=0
 ·rw [if_pos h0,if_neg (by simp;omega),if_neg (by omega)]
 ·rw [if_neg h0]
  by_cases h1:d=1
  ·rw [if_pos h1,if_neg (by simp;omega),if_neg (by omega)]
  ·rw [if_neg h1]
   cases inB d s
   ·simp
   ·simp [h0,h1]
theorem dk_low {f:DF}(hf:f.ok)(d:Int)(s:Bool){N D:Nat}{E:Int}(y:Int)(hN:0<N)(h:TnE N D E)(hE:E<=f.l-2) :
  dkD f d s N D E y=⟨1,s,false,f.l,if d≠0/\d≠1/\inB d s=true then 1 else 0⟩/\dkF f d s N D E=12:=by
 obtain ⟨m0,m1,l0,l1,lm,j0,j1⟩:=ok_m hf
 have hq:dkQ f E=f.l:=by unfold dkQ;omega
 have hn:¬ tnG N D (f.l-1):=fun g=>h.2 (tnG_le g (by omega))
 rw [tnG_ab N D (show ((f.l.toNat:Nat):Int)-(((-f.l).toNat+1:Nat):Int)=f.l-1 by omega),Nat.pow_succ,← Nat.mul_assoc] at hn
 have hA:0<dkA N f.l:=Nat.mul_pos hN (ten_pos _)
 have hAZ:dkA N f.l*10<dkZ D f.l:=by unfold dkA dkZ;omega
 have hC:dkC0 f d s N D E=if d≠0/\d≠1/\inB d s=true then 1 else 0:=by
  unfold dkC0
  rw [hq]
  exact whC_low d s hA (by omega)
 have hX:dkX f N D E=false:=by
  unfold dkX
  rw [hq,Nat.mod_eq_of_lt (by omega)]
  exact decide_eq_false (by omega)
 have hlt:¬ (10:Nat)^(3*f.j+1)<=dkC0 f d s N D E:=by
  have:(10:Nat)^1<=10^(3*f.j+1):=Nat.pow_le_pow_right (by decide) (by omega)
  rw [hC]
  split<;>omega
 have hEe:dkE f d s N D E=f.l:=by unfold dkE;rw [if_neg hlt,hq]
 have hCc:dkC f d s N D E=if d≠0/\d≠1/\inB d s=true then 1 else 0:=by unfold dkC;rw [if_neg hlt,hC]
 unfold dkD dkF
 rw [hEe,hX,hCc]
 have hml:¬ f.m<f.l:=by omega
 refine ⟨?_,?_⟩
 ·rw [if_neg hml];rfl
 ·rw [if_neg hml]
  show (if E<f.l+3*f.j then (12:Int) else 8)=12
  exact if_pos (by omega)
theorem dk_high {f:DF}(d:Int)(s:Bool){N D:Nat}{E:Int}(y:Int)(hE:f.m+(3*f.j+1)<=E) :
  dkD f d s N D E y=(if inB d s then ⟨2,s,false,0,0⟩ else ⟨1,s,false,f.m,10^(3*f.j+1)-1⟩)/\dkF f d s N D E=10:=by
 have hq:f.m<dkE f d s N D E:=by unfold dkE dkQ;split<;>omega
 unfold dkD dkF
 rw [if_pos hq,if_pos hq]
 exact ⟨rfl,rfl⟩
def pX (f:DF)(L x:Int):Int:=min (max x (f.l-2-L)) (f.m+(3*f.j+1)-L)
theorem dk_clamp {f:DF}(hf:f.ok)(d:Int)(s:Bool){N D:Nat}{L:Int}(x y:Int)(hN:0<N)(h:TnE N D L)(hL:-9000<=L/\L<=9000) :
  dkD f d s (N*10^(clT x).toNat) (D*10^(-(clT x)).toNat) (L+clT x) y=dkD f d s (N*10^(pX f L x).toNat) (D*10^(-(pX f L x)).toNat) (L+pX f L x) y
  /\ dkF f d s (N*10^(clT x).toNat) (D*10^(-(clT x)).toNat) (L+clT x)=dkF f d s (N*10^(pX f L x).toNat) (D*10^(-(pX f L x)).toNat) (L+pX f L x):=by
 obtain ⟨m0,m1,l0,l1,lm,j0,j1⟩:=ok_m hf
 rcases Int.lt_or_le x (f.l-2-L) with c|c
 ·have e1:L+clT x<=f.l-2:=by unfold clT;omega
  have e2:L+pX f L x<=f.l-2:=by unfold pX;omega
  obtain ⟨a1,a2⟩:=dk_low hf d s y (Nat.mul_pos hN (ten_pos _)) (TnE_sh h (clT x)) e1
  obtain ⟨b1,b2⟩:=dk_low hf d s y (Nat.mul_pos hN (ten_pos _)) (TnE_sh h (pX f L x)) e2
  exact ⟨a1.trans b1.symm,a2.trans b2.symm⟩
 ·rcases Int.lt_or_le (f.m+(3*f.j+1)-L) x with c'|c'
  ·have e1:f.m+(3*f.j+1)<=L+clT x:=by unfold clT;omega
   have e2:f.m+(3*f.j+1)<=L+pX f L x:=by unfold pX;omega
   obtain ⟨a1,a2⟩:=dk_high (f:=f) (N:=N*10^(clT x).toNat) (D:=D*10^(-(clT x)).toNat) d s y e1
   obtain ⟨b1,b2⟩:=dk_high (f:=f) (N:=N*10^(pX f L x).toNat) (D:=D*10^(-(pX f L x)).toNat) d s y e2
   exact ⟨a1.trans b1.symm,a2.trans b2.symm⟩
  ·have e:clT x=pX f L x:=by unfold clT pX;omega
   rw [e]
   exact ⟨rfl,rfl⟩
theorem tn_bd {N D:Nat}{L:Int}(hN:0<N)(hD:0<D)(h1:bl N<=25600)(h2:bl D<=25600)(h:TnE N D L):-9000<=L/\L<=9000:=by
 have a:=tnG_up hD h.1
 have b:=tnG_dn hN h.2
 omega
theorem drd_num {n d:Int}{s:Bool}{N D:Nat}{x y L:Int}(hE:rqE n d N D=0)(hN:N≠0)(h:TnE N D L) :
  rqD n d s N D x y=dkD (fD n) d s (N*10^(pX (fD n) L x).toNat) (D*10^(-(pX (fD n) L x)).toNat) (L+pX (fD n) L x) y
  /\ rqF n d s N D x=dkF (fD n) d s (N*10^(pX (fD n) L x).toNat) (D*10^(-(pX (fD n) L x)).toNat) (L+pX (fD n) L x):=by
 obtain ⟨h1,h2,h3,h4,h5⟩:=rq_zero hE
 have hN':0<N:=by omega
 have hD':0<D:=by omega
 obtain ⟨a,b⟩:=dk_clamp (fD_ok n) d s x y hN' h (tn_bd hN' hD' h4 h5 h)
 unfold rqD rqF
 rw [if_pos hE,if_pos hE,if_neg hN,if_neg hN,tnX_sh hN' hD' h,a,b]
 exact ⟨rfl,rfl⟩
end Go.Proofs.YtahfkpjhlbiamaaGreatDoor

namespace Go.Proofs.YtahfkpjhlbiamaaGreatDoor
theorem rep_all (z:Nat):(List.replicate z (48:UInt8)).all dg=true:=by
 induction z with
 | zero=>rfl
 | succ k ih=>rw [List.replicate_succ,List.all_cons,ih];rfl
theorem dV_rep {T:List UInt8}(hT:T.all dg=true):∀ z,dV (T++List.replicate z 48)=dV T*10^z
 | 0=>by simp
 | z+1=>by
  rw [List.replicate_succ',← List.append_assoc,dV_snoc (by rw [List.all_append,hT,rep_all];rfl) (by decide),dV_rep hT z,Nat.pow_succ]
  have:(48:UInt8).toNat-48=0:=by decide
  rw [this,Nat.add_zero,Nat.mul_comm 10,Nat.mul_assoc]
end Go.Proofs.YtahfkpjhlbiamaaGreatDoor

namespace Go.Proofs.YtahfkpjhlbiamaaGreatDoor
open Go.RowKit
def dcW (X:Nat):List UInt8:=if X=0 then [] else dcD X (bl X)
theorem dcW_facts (X:Nat):gdD (dcW X)/\dV (dcW X)=X:=by
 unfold dcW
 by_cases h0:X=0
 ·rw [if_pos h0]
  exact ⟨Or.inl rfl,h0▸rfl⟩
 ·rw [if_neg h0]
  have hX:(0:Int)<X:=by omega
  have hL:(X:Int)<10^bl X:=by
   have h1:=(bl_bd h0).2.1
   have h2:=Nat.pow_le_pow_left (show 2<=10 by decide) (bl X)
   have h3:X<10^bl X:=by omega
   exact_mod_cast h3
  obtain ⟨d1,d2,d3⟩:=dcD_facts hX hL
  exact ⟨d1,by omega⟩
theorem dcW_ne {X:Nat}(h:X≠0):dcW X≠[]:=fun e=>h (by rw [← (dcW_facts X).2,e];rfl)
theorem dcW_is {D:List UInt8}(h:gdD D):D=dcW (dV D):=gd_uniq h (dcW_facts _).1 (dcW_facts _).2.symm
theorem dcW_len {X n:Nat}(hn:1<=n)(h1:10^(n-1)<=X)(h2:X<10^n):(dcW X).length=n:=by
 obtain ⟨d1,d2⟩:=dcW_facts X
 have hX:X≠0:=by have:0<10^(n-1):=Nat.pow_pos (by decide);omega
 have hne:=dcW_ne hX
 have hlt:=(dV_lt (gdD_all d1)).1
 rcases d1 with h|⟨h,h0⟩
 ·exact absurd h hne
 have hge:=dV_ge (isd_all h) h0 hne
 rw [d2] at hlt hge
 have hl:1<=(dcW X).length:=by
  rcases Nat.eq_zero_or_pos (dcW X).length with h|h
  ·exact absurd (List.eq_nil_of_length_eq_zero h) hne
  ·exact h
 have a1:10^(n-1)<10^(dcW X).length:=by omega
 have a2:10^((dcW X).length-1)<10^n:=by omega
 have b1:=(Nat.pow_lt_pow_iff_right (by decide:1<10)).1 a1
 have b2:=(Nat.pow_lt_pow_iff_right (by decide:1<10)).1 a2
 omega
theorem dcW_pow (n:Nat):dcW (10^n)=49::List.replicate n 48:=by
 have hg:gdD (49::List.replicate n 48):=by
  refine Or.inr ⟨?_,by rw [by_zero];decide⟩
  unfold isd
  rw [List.all_cons,rep_all n]
  rfl
 have hv:dV (49::List.replicate n 48)=10^n:=by
  have:=dV_rep (T:=[49]) rfl n
  rw [show [49]++List.replicate n 48=(49:UInt8)::List.replicate n 48 from rfl,show dV [49]=1 from rfl,Nat.one_mul] at this
  exact this
 have:=dcW_is hg
 rw [hv] at this
 exact this.symm
def fxD (n c:Nat):List UInt8:=(dcW c).take n
def fxX (n c:Nat)(a:Int):Int:=if n<(dcW c).length then a+1 else a
theorem fx_text {n c:Nat}(hn:1<=n)(h1:10^(n-1)<=c)(h2:c<=10^n)(a:Int) :
  gdD (fxD n c)/\(fxD n c).length=n/\((c<10^n/\dV (fxD n c)=c/\fxX n c a=a)∨(c=10^n/\dV (fxD n c)=10^(n-1)/\fxX n c a=a+1)):=by
 unfold fxD fxX
 rcases Nat.lt_or_ge c (10^n) with h|h
 ·have hl:=dcW_len hn h1 h
  rw [List.take_of_length_le (by omega),hl]
  exact ⟨(dcW_facts c).1,rfl,Or.inl ⟨h,(dcW_facts c).2,if_neg (by omega)⟩⟩
 ·have hc:c=10^n:=by omega
  subst hc
  rw [dcW_pow]
  obtain ⟨m,rfl⟩:∃ m,n=m+1:=⟨n-1,by omega⟩
  have e:(49::List.replicate (m+1) (48:UInt8)).take (m+1)=49::List.replicate m 48:=by
   rw [List.take_succ_cons,List.take_replicate]
   congr 2
   omega
  rw [e,← dcW_pow m]
  refine ⟨(dcW_facts _).1,?_,Or.inr ⟨rfl,(dcW_facts _).2,if_pos (by simp)⟩⟩
  rw [dcW_pow]
  simp
theorem fx_more {k:Nat}{x e:Int}{Y:Nat}(h:fxA k x e=Y*fxB x e)(m:Nat):fxA k x (e-m)=Y*10^m*fxB x (e-m):=by
 have s:=fx_shift k x e m
 rw [h] at s
 refine Nat.eq_of_mul_eq_mul_right (fxB_pos x e) ?_
 rw [s]
 grind
theorem fx_top {k:Nat}{x e:Int}{Y L:Nat}(h:fxA k x e=Y*fxB x e)(hL:1<=L)(h1:10^(L-1)<=Y)(h2:Y<10^L):tnP k x (e+L-1)/\¬ tnP k x (e+L-1+1):=by
 have s1:=fx_shift k x (e+L-1) (L-1)
 have s2:=fx_shift k x (e+L-1+1) L
 rw [show e+(L:Int)-1-((L-1:Nat):Int)=e by omega,h] at s1
 rw [show e+(L:Int)-1+1-(L:Int)=e by omega,h] at s2
 have be:=fxB_pos x e
 have b1:=fxB_pos x (e+L-1)
 have b2:=fxB_pos x (e+L-1+1)
 rw [fx_tn,fx_tn]
 generalize fxA k x (e+L-1)=A1 at *
 generalize fxB x (e+L-1)=B1 at *
 generalize fxA k x (e+L-1+1)=A2 at *
 generalize fxB x (e+L-1+1)=B2 at *
 generalize fxB x e=Be at *
 have t1:Y*B1=10^(L-1)*A1:=by
  refine Nat.eq_of_mul_eq_mul_right be ?_
  have:Y*B1*Be=Y*Be*B1:=by grind
  omega
 have t2:Y*B2=10^L*A2:=by
  refine Nat.eq_of_mul_eq_mul_right be ?_
  have:Y*B2*Be=Y*Be*B2:=by grind
  omega
 constructor
 ·refine Nat.le_of_mul_le_mul_left (c:=10^(L-1)) ?_ (Nat.pow_pos (by decide))
  rw [← t1]
  exact Nat.mul_le_mul_right _ h1
 ·intro h3
  have a1:10^L*B2<=Y*B2:=by rw [t2];exact Nat.mul_le_mul_left _ h3
  have a2:Y*B2<10^L*B2:=Nat.mul_lt_mul_of_pos_right h2 b2
  omega
theorem fx_whole (k:Nat){x:Int}(hx:0<=x):fxA k x 0=k*2^x.toNat*fxB x 0:=by
 unfold fxA fxB
 rw [show (-x).toNat=0 by omega]
 simp
theorem fx_part (k:Nat){x:Int}(hx:¬ 0<=x):fxA k x x=k*5^(-x).toNat*fxB x x:=by
 unfold fxA fxB
 rw [show x.toNat=0 by omega,p10_split]
 grind
def exX (k:Nat)(x:Int):Nat:=if 0<=x then k*2^x.toNat else k*5^(-x).toNat
def exA (x:Int):Int:=if 0<=x then 0 else x
theorem ex_val (k:Nat)(x:Int):fxA k x (exA x)=exX k x*fxB x (exA x):=by
 unfold exA exX
 by_cases h:0<=x
 ·rw [if_pos h,if_pos h];exact fx_whole k h
 ·rw [if_neg h,if_neg h];exact fx_part k h
theorem ex_ne {k:Nat}(hk:k≠0)(x:Int):exX k x≠0:=by
 unfold exX
 split
 ·exact Nat.mul_ne_zero hk (Nat.ne_of_gt (Nat.two_pow_pos _))
 ·exact Nat.mul_ne_zero hk (Nat.ne_of_gt (Nat.pow_pos (by decide)))
theorem tn_low {k:Nat}{x E:Int}(hk:k≠0)(hx:-16990<=x)(h:¬ tnP k x (E+1)):-5200<=E:=by
 apply Classical.byContradiction
 intro hE
 apply h
 unfold tnP zE oE
 have e1:(E+1).toNat=0:=by omega
 rw [e1,Nat.pow_zero,Nat.mul_one]
 obtain ⟨t,ht⟩:∃ t:Nat,t=5115:=⟨_,rfl⟩
 obtain ⟨a,ha⟩:∃ a:Nat,a=16990:=⟨_,rfl⟩
 have h1:10^t<=10^(-(E+1)).toNat:=Nat.pow_le_pow_right (by decide) (by omega)
 have h2:2^(-x).toNat<=2^a:=Nat.pow_le_pow_right (by decide) (by omega)
 have h4:2^a<=10^t:=two_le_ten (by omega)
 have h5:1<=2^x.toNat:=Nat.two_pow_pos _
 have h6:1*10^(-(E+1)).toNat<=2^x.toNat*10^(-(E+1)).toNat:=Nat.mul_le_mul_right _ h5
 have h7:1*(2^x.toNat*10^(-(E+1)).toNat)<=k*(2^x.toNat*10^(-(E+1)).toNat):=Nat.mul_le_mul_right _ (Nat.pos_of_ne_zero hk)
 rw [Nat.mul_assoc]
 exact Nat.mul_le_mul_left 4 (by omega)
def fxC (d:Int)(s:Bool)(k:Nat)(x E:Int)(m:Nat):Nat:=whC d s (fxA k x (E-m+1)) (fxB x (E-m+1))
def fxT (d:Int)(s:Bool)(k:Nat)(x E:Int)(m:Nat):List UInt8:=sgL s++unT (fxD m (fxC d s k x E m)) (fxX m (fxC d s k x E m) (E-m+1)+m-1)
def fxI (k:Nat)(x E:Int)(m:Nat):Bool:=!decide (fxA k x (E-m+1)%fxB x (E-m+1)=0)
theorem five_31 {m q:Nat}(hm:m<=31*q):5^m<=2^(72*q):=by
 have a1:5^m<=5^(31*q):=Nat.pow_le_pow_right (by decide) hm
 have a2:(5:Nat)^(31*q)<=2^(72*q):=by
  rw [Nat.pow_mul,Nat.pow_mul 2]
  exact Nat.pow_le_pow_left (by decide) _
 exact Nat.le_trans a1 a2
theorem ten_28 {m q:Nat}(hm:m<=93*q):2^m<=10^(28*q):=by
 have a1:2^m<=2^(93*q):=Nat.pow_le_pow_right (by decide) hm
 have a2:(2:Nat)^(93*q)<=10^(28*q):=by
  rw [Nat.pow_mul,Nat.pow_mul 10]
  exact Nat.pow_le_pow_left (by decide) _
 exact Nat.le_trans a1 a2
theorem ten_59:∀ r,r<59->10^r<=2^(r*3322/1000+1):=by decide
theorem sz_low {m c:Nat}(hc:c*100000<=m*30103)(hm:m<=52000):10^c<=10*2^m:=by
 obtain ⟨q,r,hr,hq⟩:∃ q r,r<59/\c=59*q+r:=⟨c/59,c%59,Nat.mod_lt _ (by decide),(Nat.div_add_mod c 59).symm⟩
 have h1:10^c=(10^59)^q*10^r:=by rw [hq,Nat.pow_add,Nat.pow_mul]
 have h2:((10:Nat)^59)^q<=2^(196*q):=by rw [Nat.pow_mul];exact Nat.pow_le_pow_left (by decide) _
 have h3:=ten_59 r hr
 have h4:196*q+(r*3322/1000+1)<=m+3:=by omega
 calc 10^c=(10^59)^q*10^r:=h1
  _<=2^(196*q)*2^(r*3322/1000+1):=Nat.mul_le_mul h2 h3
  _=2^(196*q+(r*3322/1000+1)):=(Nat.pow_add _ _ _).symm
  _<=2^(m+3):=Nat.pow_le_pow_right (by decide) h4
  _=2^m*8:=by rw [Nat.pow_add]
  _<=10*2^m:=by omega
theorem ex_short {k:Nat}{x:Int}(hk:k<2^256)(hx:-16990<=x/\x<=16990):bl (exX k x)<=39785:=by
 have hbk:bl k<=256:=bl_le.2 hk
 unfold exX
 split
 ·have b1:=bl_mul k (2^x.toNat)
  have b2:=two_bl x.toNat
  omega
 ·have b1:=bl_mul k (5^(-x).toNat)
  obtain ⟨q,hq⟩:∃ q:Nat,q=549:=⟨_,rfl⟩
  have b2:bl (5^(-x).toNat)<=72*q+1:=bl_le.2 (Nat.lt_of_le_of_lt (five_31 (m:=(-x).toNat) (q:=q) (by omega)) (Nat.pow_lt_pow_succ (by decide)))
  omega
theorem dcW_bd {X:Nat}(h0:X≠0):1<=(dcW X).length/\10^((dcW X).length-1)<=X/\X<10^(dcW X).length:=by
 obtain ⟨d1,d2⟩:=dcW_facts X
 have hne:=dcW_ne h0
 have hlt:=(dV_lt (gdD_all d1)).1
 rcases d1 with h|⟨h,hh⟩
 ·exact absurd h hne
 have hge:=dV_ge (isd_all h) hh hne
 rw [d2] at hlt hge
 refine ⟨?_,hge,hlt⟩
 rcases Nat.eq_zero_or_pos (dcW X).length with h|h
 ·exact absurd (List.eq_nil_of_length_eq_zero h) hne
 ·exact h
theorem dcW_most {X:Nat}(h0:X≠0)(hb:bl X<=39785):(dcW X).length<=11984:=by
 obtain ⟨h1,h2,h3⟩:=dcW_bd h0
 have h4:X<2^bl X:=bl_le.1 (Nat.le_refl _)
 obtain ⟨q,hq⟩:∃ q:Nat,q=428:=⟨_,rfl⟩
 have h5:=ten_28 (m:=bl X) (q:=q) (by omega)
 have h6:10^((dcW X).length-1)<10^(28*q):=Nat.lt_of_le_of_lt h2 (Nat.lt_of_lt_of_le h4 h5)
 have:=(Nat.pow_lt_pow_iff_right (by decide:1<10)).1 h6
 omega
theorem sz_guess {X:Nat}(h0:X≠0)(hb:bl X<=39785):(bl X-1)*30103/100000<=(dcW X).length:=by
 obtain ⟨h1,h2,h3⟩:=dcW_bd h0
 have h4:2^(bl X-1)<=X:=by
  have:bl X≠0:=fun e=>h0 (bl_zero.1 e)
  exact bl_ge.1 (by omega)
 have h5:=sz_low (m:=bl X-1) (c:=(bl X-1)*30103/100000) (Nat.div_mul_le_self _ _) (by omega)
 have h6:10^((bl X-1)*30103/100000)<10^((dcW X).length+1):=by
  rw [Nat.pow_succ]
  omega
 have:=(Nat.pow_lt_pow_iff_right (by decide:1<10)).1 h6
 omega
theorem wh_cross (d:Int)(s:Bool){A B N U:Nat}(hB:0<B)(hU:0<U)(h:N*B=U*A):whC d s A B=whC d s N U/\(A%B=0↔N%U=0):=by
 have sc:∀ (A B c:Nat),0<c->whC d s (A*c) (B*c)=whC d s A B/\(A*c%(B*c)=0↔A%B=0):=fun A B c hc=>by
  have e1:A*c/(B*c)=A/B:=Nat.mul_div_mul_right _ _ hc
  have e2:A*c%(B*c)=A%B*c:=Nat.mul_mod_mul_right _ _ _
  refine ⟨?_,?_⟩
  ·unfold whC
   rw [e1,e2,fa_sc d s _ _ _ c hc]
  ·rw [e2]
   refine ⟨fun h=>?_,fun h=>by rw [h,Nat.zero_mul]⟩
   rcases Nat.mul_eq_zero.1 h with h|h
   ·exact h
   ·omega
 have s1:=sc A B U hU
 have s2:=sc N U B hB
 rw [show A*U=N*B by rw [h,Nat.mul_comm],show B*U=U*B from Nat.mul_comm _ _] at s1
 exact ⟨s1.1.symm.trans s2.1,s1.2.symm.trans s2.2⟩
def cuN (k:Nat)(x:Int)(m:Nat):Nat:=exX k x*10^(-((dcW (exX k x)).length-(m:Int))).toNat
def cuU (k:Nat)(x:Int)(m:Nat):Nat:=10^((dcW (exX k x)).length-(m:Int)).toNat
def cuE (k:Nat)(x:Int):Int:=exA x+(dcW (exX k x)).length-1
theorem cuU_pos (k:Nat)(x:Int)(m:Nat):0<cuU k x m:=Nat.pow_pos (by decide)
theorem cu_top {k:Nat}(hk:k≠0)(x:Int):tnP k x (cuE k x)/\¬ tnP k x (cuE k x+1):=by
 obtain ⟨h1,h2,h3⟩:=dcW_bd (ex_ne hk x)
 exact fx_top (ex_val k x) h1 h2 h3
theorem cu_cross (k:Nat)(x:Int)(m:Nat):cuN k x m*fxB x (cuE k x-m+1)=cuU k x m*fxA k x (cuE k x-m+1):=by
 have hv:=ex_val k x
 unfold cuN cuU cuE
 generalize exX k x=X at *
 generalize exA x=e at *
 generalize (dcW X).length=L at *
 rcases Nat.le_total m L with h|h
 ·have s:=fx_shift k x (e+L-1-m+1) (L-m)
  rw [show e+(L:Int)-1-m+1-((L-m:Nat):Int)=e by omega,hv] at s
  rw [show (-((L:Int)-m)).toNat=0 by omega,Nat.pow_zero,Nat.mul_one,show ((L:Int)-m).toNat=L-m by omega]
  refine Nat.eq_of_mul_eq_mul_right (fxB_pos x e) ?_
  rw [← s]
  grind
 ·have s:=fx_more hv (m-L)
  rw [show e-((m-L:Nat):Int)=e+(L:Int)-1-m+1 by omega] at s
  rw [show (-((L:Int)-m)).toNat=m-L by omega,show ((L:Int)-m).toNat=0 by omega,Nat.pow_zero,Nat.one_mul,s]
theorem cu_whole (d:Int)(s:Bool)(k:Nat)(x:Int)(m:Nat):fxC d s k x (cuE k x) m=whC d s (cuN k x m) (cuU k x m)/\fxI k x (cuE k x) m=!decide (cuN k x m%cuU k x m=0):=by
 obtain ⟨h1,h2⟩:=wh_cross d s (fxB_pos x (cuE k x-m+1)) (cuU_pos k x m) (cu_cross k x m)
 refine ⟨h1,?_⟩
 unfold fxI
 by_cases h:cuN k x m%cuU k x m=0
 ·rw [decide_eq_true h,decide_eq_true (h2.2 h)]
 ·rw [decide_eq_false h,decide_eq_false (fun e=>h (h2.1 e))]
section
theorem npow10z (m:Nat)(w:World)(hm:m<=12000):Calls Tryz.prog 56 #[.int .i64 10,.int .i64 (m:Int)] w fun r w'=>∃ v,r=.returned (.tuple #[v,.int .i64 0])/\NT 2001 (10^m) v w'/\Below w.heap.size w w':=by
 refine (npow_any 10 m w (Or.inr rfl) hm).mono fun r w' ⟨g,k,cap,z,e1,hk,hN,hv,hs,hB⟩=>⟨_,e1,⟨g,k,cap,z,rfl,hk,hN,?_,hs⟩,hB⟩
 rw [hv];simp
attribute [local irreducible] W4 Nz Nt NT
theorem ten_v (m:Nat)(w:World)(hm:m<=12000):CE 98 #[.int .i64 (m:Int)] w (NT 2001 (10^m)):=by
 have c1:=fun W=>npow10z m W hm
 go_enter Tryz.func98,Tryz.ntmps98
 go_wp2_with (go_at_call 56;refine (c1 _).mono ?_;rintro r w1 ⟨v,rfl,hv,hb1⟩)
 go_ret
 exact ⟨v,rfl,hv,hb1⟩
theorem fives_w (n a b:Int)(A B:Nat)(w:World)(hn:0<=n/\n<=20000)(ha:n/2=a)(hb:n-a=b)(hbl:bl A+bl B<=127000)
  (c1:∀ W,Calls Tryz.prog 56 #[.int .i64 5,.int .i64 a] W fun r w'=>∃ v,r=.returned (.tuple #[v,.int .i64 0])/\NT 2001 A v w'/\Below W.heap.size W w')
  (c2:∀ W,Calls Tryz.prog 56 #[.int .i64 5,.int .i64 b] W fun r w'=>∃ v,r=.returned (.tuple #[v,.int .i64 0])/\NT 2001 B v w'/\Below W.heap.size W w') :
  CE 163 #[.int .i64 n] w (NT 2001 (A*B)):=by
 subst hb ha
 have hn1:n<=9223372036854775807:=by omega
 go_enter Tryz.func163,Tryz.ntmps163
 go_wp2_with (first
  | (go_at_call 81;refine (nmul_w (by decide) (by decide) (hv1.next hb2).nt hv2.nt hbl).mono ?_;rintro r w3 ⟨v3,rfl,hv3,hb3⟩)
  | (have:=hv1;go_at_call 56;refine (c2 _).mono ?_;rintro r w2 ⟨v2,rfl,hv2,hb2⟩)
  | (go_at_call 56;refine (c1 _).mono ?_;rintro r w1 ⟨v1,rfl,hv1,hb1⟩))
 go_ret
 exact ⟨v3,rfl,hv3,bnx (bnx hb1 hb2) hb3⟩
theorem five_le (m:Nat):bl (5^m)<=3*m+1:=bl_le.2 (by
 have a1:5^m<=(2^3)^m:=Nat.pow_le_pow_left (by decide) _
 rw [← Nat.pow_mul] at a1
 exact Nat.lt_of_le_of_lt a1 (Nat.pow_lt_pow_succ (by decide)))
theorem fives_v (m:Nat)(w:World)(hm:m<=20000):CE 163 #[.int .i64 (m:Int)] w (NT 2001 (5^m)):=by
 have e:5^m=5^(m/2)*5^(m-m/2):=by rw [← Nat.pow_add];congr 1;omega
 rw [e]
 have b1:=five_le (m/2)
 have b2:=five_le (m-m/2)
 exact fives_w m ((m/2:Nat):Int) ((m-m/2:Nat):Int) _ _ w (by omega) (by omega) (by omega) (by omega) (fun W=>npow5z (m/2) W (by omega)) (fun W=>npow5z (m-m/2) W (by omega))
theorem fnone_v (c:Int)(s g:Bool)(x:Int)(k:Nat)(w:World)(hk:k<2^256):CB 94 #[DV c s g x k] w (.bool (decide (k=0))):=by
 have h24:=eq24 (W4 k 0) (W4 k 1) (W4 k 2) (W4 k 3) 0 0 0 0
 rw [W4_none hk] at h24
 have hsm:=cell_set_map
 unfold DV
 go_enter Tryz.func94,Tryz.ntmps94
 go_wp2
 go_ret
 exact ⟨rfl,bgo⟩
noncomputable def opsW2:List Oper:=(Tryz.f96.body.bind (findR 2)).getD []
def slotsW2:List Nat:=[8,9,10,11,12,13,14]
def slotsAW2:List Nat:=[8,9,10,11,12,13,14,7,15,16,2]
theorem put_size {a:Act}{d:Nat}{v:Value}:(a.put (some d) v).tmps.size=a.tmps.size:=by simp [Act.put]
def TU2 (X:Nat)(v:Value)(w:World):Prop:=∃ q,v=.tuple #[q,.int .i64 0]/\NT 2001 X q w
theorem TU2.next {X:Nat}{v:Value}{w w':World}(h:TU2 X v w)(hb:Below w.heap.size w w'):TU2 X v w':=by
 obtain ⟨q,e,hq⟩:=h
 exact ⟨q,e,hq.next hb⟩
theorem regW2 {h1 k F X:Nat}{x:Int}{a0:Act}{ws:World}{Q:Exit->Act->World->Prop}(hP:∀ c a d v w,Q (.panic c) (Act.put a d v) w->Q (.panic c) a w)(hs:a0.tmps.size=29)(g1:slot a0 1=.pointer (some ⟨h1,0,none⟩))(hx:-1000000<=x/\x<=1000000)(hlt:h1<ws.heap.size)(k3:ws.cell? ⟨h1,3,none⟩=some (.int .i64 x))
  (c1:∀ W,CE 163 #[.int .i64 (-x)] W (NT 2001 F))
  (c2:∀ W p,Below ws.heap.size ws W->NT 2001 F p W->Calls Tryz.prog 81 #[.slice (some ⟨h1,4,none⟩) 4 4,p] W fun e w'=>∃ u,e=.returned (.tuple #[u,.int .i64 0])/\NT 2001 X u w'/\Below W.heap.size W w')
  (hQ:∀ (a:Act) (w:World) (u:Value),slot a 2=u->NT 2001 X u w->a.tmps.size=29->a.defers=a0.defers->(∀ t,(∀ i,i<11->slotsAW2.getD i 0≠t)->slot a t=slot a0 t)->Below ws.heap.size ws w->Q .normal a w) :
  (Code.region 2 opsW2.toArray true).wp Tryz.prog Q a0 ws:=by
 refine wp_region_memr 7 29 slotsW2 [iW (.pointer (some ⟨h1,4,none⟩)),iW (.slice (some ⟨h1,4,none⟩) 4 4),iW (.pointer (some ⟨h1,3,none⟩)),iW (.int .i64 x),iW (.int .i64 (-x)),NT 2001 F,TU2 X] (fun w w'=>Below w.heap.size w w') (fun L f w=>Below ws.heap.size ws w) (by kernel_rfl) (by kernel_rfl) hP (by kernel_rfl) hs ?_ (Below.refl _ _).drew ?_ ?_
 ·intro p hp
  simp only [List.mem_cons,List.not_mem_nil,or_false] at hp
  rcases hp with rfl|rfl|rfl|rfl|rfl|rfl|rfl
  all_goals first|exact fun _ _ _ h _=>h|exact fun _ _ _ h hb=>h.next hb
 ·intro L i o a w hi ho hL hcl he hM hF hv
  have f1:slot a 1=.pointer (some ⟨h1,0,none⟩):=(hF 1 (by decide)).trans g1
  have hor:i=0∨i=1∨i=2∨i=3∨i=4∨i=5∨i=6:=by omega
  rcases hor with rfl|rfl|rfl|rfl|rfl|rfl|rfl
  ·obtain rfl:=Option.some.inj (show opsW2[0]?=some o from ho)
   exact og_fad4 f1 ⟨_,rfl,rfl,Below.refl _ _,hM⟩
  ·obtain rfl:=Option.some.inj (show opsW2[1]?=some o from ho)
   exact og_sl4 (hv 0 (by decide) rfl (he ⟨0,.data⟩ (by simp) rfl):slot a 8=.pointer (some ⟨h1,4,none⟩)) ⟨_,rfl,rfl,Below.refl _ _,hM⟩
  ·obtain rfl:=Option.some.inj (show opsW2[2]?=some o from ho)
   exact og_fad3 f1 ⟨_,rfl,rfl,Below.refl _ _,hM⟩
  ·obtain rfl:=Option.some.inj (show opsW2[3]?=some o from ho)
   exact og_ld3 (hv 2 (by decide) rfl (he ⟨2,.data⟩ (by simp) rfl):slot a 10=.pointer (some ⟨h1,3,none⟩)) ((hM.cell (p:=⟨h1,3,none⟩) hlt).trans k3) ⟨_,rfl,rfl,Below.refl _ _,hM⟩
  ·obtain rfl:=Option.some.inj (show opsW2[4]?=some o from ho)
   exact og_neg hx (hv 3 (by decide) rfl (he ⟨3,.data⟩ (by simp) rfl):slot a 11=.int .i64 x) ⟨_,rfl,rfl,Below.refl _ _,hM⟩
  ·obtain rfl:=Option.some.inj (show opsW2[5]?=some o from ho)
   refine og_c1 (by simp [go_sem]) (hv 4 (by decide) rfl (he ⟨4,.data⟩ (by simp) rfl):slot a 12=.int .i64 (-x)) ((c1 w).mono ?_)
   rintro e w' ⟨v,rfl,hSv,hb⟩
   exact ⟨v,rfl,_,rfl,hSv,hb,bnx hM hb⟩
  ·obtain rfl:=Option.some.inj (show opsW2[6]?=some o from ho)
   refine og_c2 (by simp [go_sem]) (hv 1 (by decide) rfl (he ⟨1,.data⟩ (by simp) rfl):slot a 9=.slice (some ⟨h1,4,none⟩) 4 4) rfl ((c2 w _ hM (hv 5 (by decide) rfl (he ⟨5,.data⟩ (by simp) rfl))).mono ?_)
   rintro e w' ⟨v,rfl,hSv,hb⟩
   exact ⟨_,rfl,_,rfl,⟨v,rfl,hSv⟩,hb,bnx hM hb⟩
 ·intro L a w hL hM hsz hdf hF hv
  obtain ⟨q,e,hq⟩:=(hv 6 (by decide) rfl:TU2 X (slot a 14) w)
  refine BigFrame.wpList_want rfl fun K hK=>og_mv e (hK _ _ ?_)
  clear K hK
  refine BigFrame.wpList_want rfl fun K hK=>og_ext (slot_put (by omega)) rfl (hK _ _ ?_)
  clear K hK
  refine BigFrame.wpList_want rfl fun K hK=>og_ext ((slot_put_ne (by decide)).trans (slot_put (by omega))) rfl (hK _ _ ?_)
  clear K hK
  refine BigFrame.wpList_want rfl fun K hK=>og_as ((slot_put_ne (by decide)).trans (slot_put (by rw [put_size];omega))) (hK _ _ ?_)
  clear K hK
  refine hQ _ _ q (slot_put (by simp only [put_size];omega)) hq (by simp only [put_size];exact hsz) hdf (fun t ht=>?_) hM
  rw [slot_put_ne (show 2≠t from ht 10 (by decide)),slot_put_ne (show 16≠t from ht 9 (by decide)),slot_put_ne (show 15≠t from ht 8 (by decide)),slot_put_ne (show 7≠t from ht 7 (by decide))]
  exact hF t fun i hi=>by
   have:=ht i (by omega)
   have hor:i=0∨i=1∨i=2∨i=3∨i=4∨i=5∨i=6:=by omega
   rcases hor with rfl|rfl|rfl|rfl|rfl|rfl|rfl<;>exact this
section
variable (c:Int)(s g:Bool)(x:Int)(k:Nat)(w:World)(hk:k<2^256)(hx:-17000<=x/\x<=17000)
include hk hx
theorem whole_n (F:Nat)(hF:bl k+bl F<=127000)(h:x<0)(c1:∀ W,CE 163 #[.int .i64 (-x)] W (NT 2001 F)) :
  Calls Tryz.prog 96 #[DV c s g x k] w fun r w'=>∃ v,r=.returned (.tuple #[v,.int .i64 x])/\NT 2001 (k*F) v w'/\Below w.heap.size w w':=by
 have hsm:=cell_set_map
 have hn0:Nt 4 k (.slice (some ⟨w.heap.size,4,none⟩) 4 4) (w.alloc (.cells #[.int .i64 c,.bool s,.bool g,.int .i64 x,.int .u64 (W4 k 0),.int .u64 (W4 k 1),.int .u64 (W4 k 2),.int .u64 (W4 k 3)] 32)):=nt_at hk (by simp) (by go_simp) (by go_simp) (by go_simp) (by go_simp)
 have hb0:=below1 w (.cells #[.int .i64 c,.bool s,.bool g,.int .i64 x,.int .u64 (W4 k 0),.int .u64 (W4 k 1),.int .u64 (W4 k 2),.int .u64 (W4 k 3)] 32)
 unfold DV
 go_enter Tryz.func96,Tryz.ntmps96
 go_wp2
 refine regW2 (h1:=w.heap.size) (k:=k) (F:=F) (X:=k*F) (x:=x) (fun _ _ d _ _ h=>by cases d<;>exact h) rfl rfl (by omega) (by simp) (by go_simp) c1 (fun W p hW hp=>nmul_w (by decide) (by decide) (hn0.next hW) hp.nt hF) ?_
 intro a' w2 v2 h2 hv2 hsz hdf hF2 hb2
 have ha:=act_of slotsAW2 11 rfl hsz hdf hF2
 rw [ha]
 simp only [slotsAW2,List.foldl_cons,List.foldl_nil,Act.put,List.setIfInBounds_toArray,List.set_cons_succ,List.set_cons_zero,h2]
 generalize slot a' 8=s8
 generalize slot a' 9=s9
 generalize slot a' 10=s10
 generalize slot a' 11=s11
 generalize slot a' 12=s12
 generalize slot a' 13=s13
 generalize slot a' 14=s14
 generalize slot a' 7=s7
 generalize slot a' 15=s15
 generalize slot a' 16=s16
 clear ha h2 hsz hdf hF2 hn0 hb0
 obtain ⟨_,_,_,_,hA2,_⟩:=wz w hb2;clear hb2
 have k3:w2.cell? ⟨w.heap.size,3,none⟩=some (.int .i64 x):=by go_simp
 go_wp2
 refine wp_tail 4 (by kernel_rfl) (by kernel_rfl) (by kernel_rfl) (fun _ _ d _ _ h=>by cases d<;>exact h) fun hne hcell=>?_
 simp only [List.take_succ_cons,List.take_zero,List.drop_succ_cons,List.drop_zero]
 repeat go_big_quiet_step (fail)
 refine wpQuiet_nil fun w4 hb4=>?_
 have hk4:=hb4
 obtain ⟨_,_,_,_,hA4,_⟩:=wz w hb4;clear hb4
 go_wp2
 exact bodyPost_ret (v:=.tuple #[v2,.int .i64 x]) (by simp only [results,Tryz.results96];go_simp) rfl ⟨_,rfl,hv2.next hk4,bgo⟩
theorem whole_p (h:¬ x<0) :
  Calls Tryz.prog 96 #[DV c s g x k] w fun r w'=>∃ v,r=.returned (.tuple #[v,.int .i64 0])/\NT 2001 (k*2^x.toNat) v w'/\Below w.heap.size w w':=by
 have hbk:bl k<=256:=bl_le.2 hk
 have hsm:=cell_set_map
 have c2:∀ W v,Nt 4 k v W->Calls Tryz.prog 54 #[v,.int .i64 x] W fun e w'=>∃ r,e=.returned (.tuple #[r,.int .i64 0])/\NT 2001 (k*2^x.toNat) r w'/\Below W.heap.size W w':=fun W v hv=>by
  have:=nshl_w x.toNat (by decide) hv (show bl k+x.toNat<=127000 by omega)
  rw [Int.toNat_of_nonneg (by omega)] at this
  exact this
 unfold DV
 go_enter Tryz.func96,Tryz.ntmps96
 go_wp2
 go_region_with (go_at_call 54;refine (c2 _ _ (nt_at hk (by simp) (by go_simp) (by go_simp) (by go_simp) (by go_simp))).mono ?_;rintro r w2 ⟨v2,rfl,hv2,hb2⟩;obtain ⟨_,_,_,_,hA2,_⟩:=wz w hb2;clear hb2)
 go_wp2
 exact bodyPost_ret (v:=.tuple #[v2,.int .i64 0]) (by simp only [results,Tryz.results96];go_simp) rfl ⟨_,rfl,hv2,bgo⟩
end
theorem whole_v (c:Int)(s g:Bool)(x:Int)(k:Nat)(w:World)(hk:k<2^256)(hx:-17000<=x/\x<=17000) :
  Calls Tryz.prog 96 #[DV c s g x k] w fun r w'=>∃ v,r=.returned (.tuple #[v,.int .i64 (exA x)])/\NT 2001 (exX k x) v w'/\Below w.heap.size w w':=by
 have hbk:bl k<=256:=bl_le.2 hk
 unfold exX exA
 by_cases h:0<=x
 ·rw [if_pos h,if_pos h]
  exact whole_p c s g x k w hk hx (by omega)
 ·rw [if_neg h,if_neg h]
  have b:=five_le (-x).toNat
  refine whole_n c s g x k w hk hx _ (by omega) (by omega) fun W=>?_
  have:=fives_v (-x).toNat W (by omega)
  rw [Int.toNat_of_nonneg (by omega)] at this
  exact this
end
end Go.Proofs.YtahfkpjhlbiamaaGreatDoor
