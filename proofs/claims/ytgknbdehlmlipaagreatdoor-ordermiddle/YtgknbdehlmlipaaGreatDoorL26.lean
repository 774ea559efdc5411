/-
  Texts that the proof leans on.
-/
import Derived.Test.YtgknbdehlmlipaaGreatDoorL23
import Derived.Test.YtgknbdehlmlipaaGreatDoorL18
set_option linter.unusedVariables false
set_option linter.unusedSectionVars false
set_option linter.unusedSimpArgs false
set_option maxRecDepth 20000
namespace Go.Proofs.YtgknbdehlmlipaaGreatDoor
open Go.RowKit
theorem sgn_byc {a b:Nat}(c:Nat)(hc:0<c):sgn ((a*c:Nat):Int) ((b*c:Nat):Int)=sgn (a:Int) (b:Int):=by
 unfold sgn
 have h1:a*c<b*c↔a<b:=Nat.mul_lt_mul_right hc
 have h2:b*c<a*c↔b<a:=Nat.mul_lt_mul_right hc
 simp only [Int.ofNat_lt,h1,h2]
theorem rch_lo {T p q y k:Nat}(hpq:p<=q)(hp:2^p<=y^T)(hq:y^T<=2^q)(hk:k≠0){e L:Int}(hL:L=(T:Int)*((bl k:Int)-1)+(if 0<=e then (p:Int)*e else (q:Int)*e)) :
  (y^(-e).toNat)^T*2^L.toNat<=(k*y^e.toNat)^T*2^(-L).toNat:=by
 obtain ⟨b1,_,b3⟩:=bl_bd hk
 obtain ⟨c,hc⟩:∃ c:Nat,bl k=c+1:=⟨bl k-1,by omega⟩
 rw [hc,Nat.add_sub_cancel] at b1
 have hkT:2^(c*T)<=k^T:=by rw [Nat.pow_mul];exact Nat.pow_le_pow_left b1 T
 have hTc:(T:Int)*((bl k:Int)-1)=((c*T:Nat):Int):=by
  rw [hc,show (((c+1:Nat):Int)-1)=(c:Int) by omega,Int.natCast_mul,Int.mul_comm]
 rw [hTc] at hL
 rcases Int.le_total 0 e with he|he
 ·obtain ⟨n,rfl⟩:=Int.eq_ofNat_of_zero_le he
  rw [if_pos he,← Int.natCast_mul] at hL
  rw [show (-(n:Int)).toNat=0 by omega,show (-L).toNat=0 by omega,show L.toNat=c*T+p*n by omega,Int.toNat_natCast,Nat.pow_zero,Nat.pow_zero,Nat.one_pow,Nat.one_mul,Nat.mul_one,Nat.pow_add,Nat.mul_pow,← Nat.pow_mul,Nat.mul_comm n T,Nat.pow_mul y,Nat.pow_mul 2 p]
  exact Nat.mul_le_mul hkT (Nat.pow_le_pow_left hp n)
 ·obtain ⟨n,hn⟩:∃ n:Nat,e=-(n:Int):=⟨(-e).toNat,by omega⟩
  subst hn
  have h2:L=((c*T:Nat):Int)-((q*n:Nat):Int):=by
   split at hL
   ·have h0:n=0:=by omega
    subst h0
    simpa using hL
   ·rw [hL,Int.mul_neg,← Int.natCast_mul];omega
  rw [show (-(n:Int)).toNat=0 by omega,show (-(-(n:Int))).toNat=n by omega,Nat.pow_zero,Nat.mul_one,← Nat.pow_mul,Nat.mul_comm n T,Nat.pow_mul]
  calc (y^T)^n*2^L.toNat<=(2^q)^n*2^L.toNat:=Nat.mul_le_mul_right _ (Nat.pow_le_pow_left hq n)
   _=2^(c*T)*2^(-L).toNat:=by rw [← Nat.pow_mul,← Nat.pow_add,← Nat.pow_add];congr 1;omega
   _<=k^T*2^(-L).toNat:=Nat.mul_le_mul_right _ hkT
theorem rch_hi {T p q y k:Nat}(hT:T≠0)(hpq:p<=q)(hp:2^p<=y^T)(hq:y^T<=2^q)(hy:0<y)(hk:k≠0){e U:Int}(hU:U=(T:Int)*(bl k:Int)+(if 0<=e then (q:Int)*e else (p:Int)*e)) :
  (k*y^e.toNat)^T*2^(-U).toNat<(y^(-e).toNat)^T*2^U.toNat:=by
 obtain ⟨_,b2,b3⟩:=bl_bd hk
 have hkT:k^T<2^(bl k*T):=by rw [Nat.pow_mul];exact Nat.pow_lt_pow_left b2 hT
 have hTc:(T:Int)*(bl k:Int)=((bl k*T:Nat):Int):=by rw [Int.natCast_mul,Int.mul_comm]
 rw [hTc] at hU
 generalize bl k=c at *
 rcases Int.le_total 0 e with he|he
 ·obtain ⟨n,rfl⟩:=Int.eq_ofNat_of_zero_le he
  rw [if_pos he,← Int.natCast_mul] at hU
  rw [show (-(n:Int)).toNat=0 by omega,show (-U).toNat=0 by omega,show U.toNat=c*T+q*n by omega,Int.toNat_natCast,Nat.pow_zero,Nat.pow_zero,Nat.one_pow,Nat.one_mul,Nat.mul_one,Nat.pow_add,Nat.mul_pow,← Nat.pow_mul,Nat.mul_comm n T,Nat.pow_mul y,Nat.pow_mul 2 q]
  exact Nat.lt_of_lt_of_le (Nat.mul_lt_mul_of_pos_right hkT (Nat.pow_pos (Nat.pow_pos hy))) (Nat.mul_le_mul_left _ (Nat.pow_le_pow_left hq n))
 ·obtain ⟨n,hn⟩:∃ n:Nat,e=-(n:Int):=⟨(-e).toNat,by omega⟩
  subst hn
  have h2:U=((c*T:Nat):Int)-((p*n:Nat):Int):=by
   split at hU
   ·have h0:n=0:=by omega
    subst h0
    simpa using hU
   ·rw [hU,Int.mul_neg,← Int.natCast_mul];omega
  rw [show (-(n:Int)).toNat=0 by omega,show (-(-(n:Int))).toNat=n by omega,Nat.pow_zero,Nat.mul_one,← Nat.pow_mul,Nat.mul_comm n T,Nat.pow_mul]
  calc k^T*2^(-U).toNat<2^(c*T)*2^(-U).toNat:=Nat.mul_lt_mul_of_pos_right hkT (Nat.pow_pos (by decide))
   _=(2^p)^n*2^U.toNat:=by rw [← Nat.pow_mul,← Nat.pow_add,← Nat.pow_add];congr 1;omega
   _<=(y^T)^n*2^U.toNat:=Nat.mul_le_mul_right _ (Nat.pow_le_pow_left hp n)
theorem far_lt {T A B C D:Nat}{U L:Int}(hT:T≠0)(h1:A^T*2^(-U).toNat<B^T*2^U.toNat)(h2:D^T*2^L.toNat<=C^T*2^(-L).toNat)(h:U<=L)(hD:0<D):A*D<C*B:=by
 apply Nat.lt_of_not_le
 intro hle
 have hp:=Nat.pow_le_pow_left hle T
 rw [Nat.mul_pow,Nat.mul_pow] at hp
 have hDT:0<D^T:=Nat.pow_pos hD
 have k1:A^T*2^(-U).toNat*(D^T*2^L.toNat)<B^T*2^U.toNat*(C^T*2^(-L).toNat) :=
  Nat.lt_of_lt_of_le (Nat.mul_lt_mul_of_pos_right h1 (Nat.mul_pos hDT (Nat.pow_pos (by decide)))) (Nat.mul_le_mul_left _ h2)
 have k2:2^(U.toNat+(-L).toNat)<=2^((-U).toNat+L.toNat):=Nat.pow_le_pow_right (by decide) (by omega)
 rw [Nat.pow_add,Nat.pow_add] at k2
 have k3:C^T*B^T*(2^U.toNat*2^(-L).toNat)<=A^T*D^T*(2^(-U).toNat*2^L.toNat):=Nat.mul_le_mul hp k2
 rw [show A^T*2^(-U).toNat*(D^T*2^L.toNat)=A^T*D^T*(2^(-U).toNat*2^L.toNat) by ac_rfl,show B^T*2^U.toNat*(C^T*2^(-L).toNat)=C^T*B^T*(2^U.toNat*2^(-L).toNat) by ac_rfl] at k1
 omega
def rcL (x:Nat)(e:Int)(k:Nat):Int:=1000*((bl k:Int)-1)+(if x=10 then min (3321*e) (3322*e) else 1000*e)
def rcU (x:Nat)(e:Int)(k:Nat):Int:=1000*(bl k:Int)+(if x=10 then max (3321*e) (3322*e) else 1000*e)
theorem ten_bd:2^3321<=10^1000/\10^1000<=2^3322:=by
 have h:(decide (2^3321<=10^1000)&&decide (10^1000<=2^3322))=true:=by decide +kernel
 rw [Bool.and_eq_true,decide_eq_true_iff,decide_eq_true_iff] at h
 exact h
theorem rc_lo {x:Nat}(hx:x=2∨x=10){k:Nat}(hk:k≠0)(e:Int){T:Nat}(hT:T=1000):(x^(-e).toNat)^T*2^(rcL x e k).toNat<=(k*x^e.toNat)^T*2^(-(rcL x e k)).toNat:=by
 rcases hx with rfl|rfl
 ·have hL:rcL 2 e k=(T:Int)*((bl k:Int)-1)+(if 0<=e then (T:Int)*e else (T:Int)*e):=by
   unfold rcL;rw [if_neg (by decide),ite_self,hT];rfl
  exact rch_lo (T:=T) (p:=T) (q:=T) (y:=2) (Nat.le_refl _) (Nat.le_refl _) (Nat.le_refl _) hk hL
 ·have hL:rcL 10 e k=(T:Int)*((bl k:Int)-1)+(if 0<=e then ((3321:Nat):Int)*e else ((3322:Nat):Int)*e):=by
   unfold rcL;rw [if_pos rfl,hT]
   split<;>omega
  have h1:2^3321<=10^T:=by rw [hT];exact ten_bd.1
  have h2:10^T<=2^3322:=by rw [hT];exact ten_bd.2
  exact rch_lo (by decide) h1 h2 hk hL
theorem rc_hi {x:Nat}(hx:x=2∨x=10){k:Nat}(hk:k≠0)(e:Int){T:Nat}(hT:T=1000):(k*x^e.toNat)^T*2^(-(rcU x e k)).toNat<(x^(-e).toNat)^T*2^(rcU x e k).toNat:=by
 have h0:T≠0:=by omega
 rcases hx with rfl|rfl
 ·have hL:rcU 2 e k=(T:Int)*(bl k:Int)+(if 0<=e then (T:Int)*e else (T:Int)*e):=by
   unfold rcU;rw [if_neg (by decide),ite_self,hT];rfl
  exact rch_hi (T:=T) (p:=T) (q:=T) (y:=2) h0 (Nat.le_refl _) (Nat.le_refl _) (Nat.le_refl _) (by decide) hk hL
 ·have hL:rcU 10 e k=(T:Int)*(bl k:Int)+(if 0<=e then ((3322:Nat):Int)*e else ((3321:Nat):Int)*e):=by
   unfold rcU;rw [if_pos rfl,hT]
   split<;>omega
  have h1:2^3321<=10^T:=by rw [hT];exact ten_bd.1
  have h2:10^T<=2^3322:=by rw [hT];exact ten_bd.2
  exact rch_hi h0 (by decide) h1 h2 (by decide) hk hL
theorem rc_far {x y:Nat}(hx:x=2∨x=10)(hy:y=2∨y=10){k l:Nat}(hk:k≠0)(hl:l≠0){e f:Int}(h:rcU x e k<=rcL y f l) :
  k*x^e.toNat*(1*y^(-f).toNat)<l*y^f.toNat*(1*x^(-e).toNat):=by
 obtain ⟨T,hT⟩:∃ T:Nat,T=1000:=⟨_,rfl⟩
 rw [Nat.one_mul,Nat.one_mul]
 refine far_lt (T:=T) (U:=rcU x e k) (L:=rcL y f l) (by omega) (rc_hi hx hk e hT) (rc_lo hy hl f hT) h (Nat.pow_pos (by rcases hy with rfl|rfl<;>decide))
def fvE (x:Nat)(e:Int):Int:=if x=2 then 0 else e
def tmV (k:Nat)(t f:Int):Nat:=k*5^f.toNat*2^t.toNat
theorem tm_pow {x:Nat}(hx:x=2∨x=10)(e:Int):x^e.toNat=2^e.toNat*5^(fvE x e).toNat:=by
 rcases hx with rfl|rfl
 ·rw [show fvE 2 e=0 from rfl];simp
 ·rw [show fvE 10 e=e from rfl,← Nat.mul_pow]
theorem tm_pown {x:Nat}(hx:x=2∨x=10)(e:Int):x^(-e).toNat=2^(-e).toNat*5^(-(fvE x e)).toNat:=by
 have:=tm_pow hx (-e)
 rw [this]
 congr 3
 rcases hx with rfl|rfl<;>rfl
theorem rc_near {x y:Nat}(hx:x=2∨x=10)(hy:y=2∨y=10)(k l:Nat)(e f:Int) :
  sgn (tmV k (e-f) (fvE x e-fvE y f):Int) (tmV l (-(e-f)) (-(fvE x e-fvE y f)):Int)=sgn ((k*x^e.toNat*(1*y^(-f).toNat):Nat):Int) ((l*y^f.toNat*(1*x^(-e).toNat):Nat):Int):=by
 rw [Nat.one_mul,Nat.one_mul,tm_pow hx e,tm_pown hx e,tm_pow hy f,tm_pown hy f]
 generalize fvE x e=g
 generalize fvE y f=h
 have h1:k*(2^e.toNat*5^g.toNat)*(2^(-f).toNat*5^(-h).toNat)=tmV k (e-f) (g-h)*(2^(e.toNat+(-f).toNat-(e-f).toNat)*5^(g.toNat+(-h).toNat-(g-h).toNat)):=by
  unfold tmV
  rw [show k*5^(g-h).toNat*2^(e-f).toNat*(2^(e.toNat+(-f).toNat-(e-f).toNat)*5^(g.toNat+(-h).toNat-(g-h).toNat))=k*(2^(e-f).toNat*2^(e.toNat+(-f).toNat-(e-f).toNat))*(5^(g-h).toNat*5^(g.toNat+(-h).toNat-(g-h).toNat)) by ac_rfl,← Nat.pow_add,← Nat.pow_add,show (e-f).toNat+(e.toNat+(-f).toNat-(e-f).toNat)=e.toNat+(-f).toNat by omega,show (g-h).toNat+(g.toNat+(-h).toNat-(g-h).toNat)=g.toNat+(-h).toNat by omega,Nat.pow_add,Nat.pow_add]
  ac_rfl
 have h2:l*(2^f.toNat*5^h.toNat)*(2^(-e).toNat*5^(-g).toNat)=tmV l (-(e-f)) (-(g-h))*(2^(e.toNat+(-f).toNat-(e-f).toNat)*5^(g.toNat+(-h).toNat-(g-h).toNat)):=by
  unfold tmV
  rw [show l*5^(-(g-h)).toNat*2^(-(e-f)).toNat*(2^(e.toNat+(-f).toNat-(e-f).toNat)*5^(g.toNat+(-h).toNat-(g-h).toNat))=l*(2^(-(e-f)).toNat*2^(e.toNat+(-f).toNat-(e-f).toNat))*(5^(-(g-h)).toNat*5^(g.toNat+(-h).toNat-(g-h).toNat)) by ac_rfl,← Nat.pow_add,← Nat.pow_add,show (-(e-f)).toNat+(e.toNat+(-f).toNat-(e-f).toNat)=f.toNat+(-e).toNat by omega,show (-(g-h)).toNat+(g.toNat+(-h).toNat-(g-h).toNat)=h.toNat+(-g).toNat by omega,Nat.pow_add,Nat.pow_add]
  ac_rfl
 rw [h1,h2,sgn_byc _ (Nat.mul_pos (Nat.pow_pos (by decide)) (Nat.pow_pos (by decide)))]
def szV (c:Int)(k x:Nat)(e:Int)(d:Int)(l y:Nat)(f:Int):Int :=
 if c=2∨d=2 then sgn c d
 else if k=0∨l=0 then sgn (k:Int) (l:Int)
 else sgn ((k*x^e.toNat*(1*y^(-f).toNat):Nat):Int) ((l*y^f.toNat*(1*x^(-e).toNat):Nat):Int)
theorem rc_meet {x y:Nat}(hx:x=2∨x=10)(hy:y=2∨y=10){k l:Nat}(hk:k<2^256)(hl:l<2^256){e f:Int}(he:-20000<=e/\e<=20000)(hf:-20000<=f/\f<=20000)(hx10:x=10->-10000<=e/\e<=10000)(hy10:y=10->-10000<=f/\f<=10000)
  (h1:¬ rcU x e k<=rcL y f l) (h2:¬ rcU y f l<=rcL x e k):-12000<=fvE x e-fvE y f/\fvE x e-fvE y f<=12000:=by
 have a1:=bl_le.2 hk
 have a2:=bl_le.2 hl
 unfold rcU rcL at h1 h2
 unfold fvE
 rcases hx with rfl|rfl<;>rcases hy with rfl|rfl
 ·simp
 ·have:=hy10 rfl;simp only [if_pos,if_neg];simp;omega
 ·have:=hx10 rfl;simp;omega
 ·have:=hx10 rfl;have:=hy10 rfl
  rw [if_pos rfl,if_pos rfl] at h1 h2
  simp
  omega
end Go.Proofs.YtgknbdehlmlipaaGreatDoor
