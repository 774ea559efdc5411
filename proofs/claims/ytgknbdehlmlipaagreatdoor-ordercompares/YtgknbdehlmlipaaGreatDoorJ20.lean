/-
  Texts that the proof leans on.
-/
import Derived.Test.YtgknbdehlmlipaaGreatDoorJ2
import Derived.Test.YtgknbdehlmlipaaGreatDoorJ18
import Derived.Deep.Cut
import Derived.Deep.CutRange
import Derived.Test.YtgknbdehlmlipaaGreatDoorJ17
set_option linter.unusedVariables false
set_option linter.unusedSectionVars false
set_option linter.unusedSimpArgs false
set_option maxRecDepth 20000
namespace Go.Proofs.YtgknbdehlmlipaaGreatDoor
open Go.RowKit
theorem bnx {w0 W W':World}(h:Below w0.heap.size w0 W)(hb:Below W.heap.size W W'):Below w0.heap.size w0 W':=h.trans (hb.mono h.size)
def bl (V:Nat):Nat:=if V=0 then 0 else Nat.log2 V+1
theorem bl_le {V k:Nat}:bl V<=k↔V<2^k:=by
 unfold bl
 by_cases h:V=0
 ·subst h;simp;exact Nat.two_pow_pos k
 ·rw [if_neg h]
  have:=Nat.log2_lt h (k:=k)
  omega
theorem bl_ge {V k:Nat}:k<bl V↔2^k<=V:=by
 have:=bl_le (V:=V) (k:=k)
 omega
theorem bl_zero {V:Nat}:bl V=0↔V=0:=by
 unfold bl;by_cases h:V=0<;>simp [h]
theorem bl_eq {V L:Nat}(h1:2^(L-1)<=V)(h2:V<2^L):bl V=L:=by
 have a:=bl_le.2 h2
 by_cases h:L=0
 ·omega
 ·have b:=bl_ge.2 h1
  omega
def Nt (K V:Nat)(v:Value)(w:World):Prop:=∃ a k cap z,v=.slice a k cap/\k<=K/\Num w a k cap z/\val z k=(V:Int)
theorem Nt.next {K V:Nat}{v:Value}{w w':World}(h:Nt K V v w)(hb:Below w.heap.size w w'):Nt K V v w':=by
 obtain ⟨a,k,cap,z,h1,h2,h3,h4⟩:=h
 exact ⟨a,k,cap,z,h1,h2,h3.next hb,h4⟩
theorem Nt.more {K K' V:Nat}{v:Value}{w:World}(h:Nt K V v w)(hk:K<=K'):Nt K' V v w:=by
 obtain ⟨a,k,cap,z,h1,h2,h3,h4⟩:=h
 exact ⟨a,k,cap,z,h1,by omega,h3,h4⟩
def Nz (K V:Nat)(v:Value)(w:World):Prop:=∃ a k cap z,v=.slice a k cap/\k<=K/\Num w a k cap z/\val z k=(V:Int)/\sizeL z k=k
theorem Nz.next {K V:Nat}{v:Value}{w w':World}(h:Nz K V v w)(hb:Below w.heap.size w w'):Nz K V v w':=by
 obtain ⟨a,k,cap,z,h1,h2,h3,h4,h5⟩:=h
 exact ⟨a,k,cap,z,h1,h2,h3.next hb,h4,h5⟩
theorem Nz.nt {K V:Nat}{v:Value}{w:World}(h:Nz K V v w):Nt K V v w:=by
 obtain ⟨a,k,cap,z,h1,h2,h3,h4,h5⟩:=h
 exact ⟨a,k,cap,z,h1,h2,h3,h4⟩
theorem size_zero {z:Nat->Int}{k V:Nat}(hz:Words z)(hv:val z k=(V:Int)):sizeL z k=0↔V=0:=by
 constructor
 ·intro h
  have:=val_bare (x:=z) k
  rw [h] at this
  have h0:val z 0=0:=rfl
  omega
 ·intro h
  subst h
  rcases Nat.eq_zero_or_pos (sizeL z k) with h|h
  ·exact h
  ·exfalso
   have:=val_longer (x:=z) (y:=z) hz hz (n:=0) (m:=sizeL z k) h (sizeL_sizeL z k)
   rw [val_bare] at this
   have h0:val z 0=0:=rfl
   omega
theorem len_bl {z:Nat->Int}{k V:Nat}(hz:Words z)(hv:val z k=(V:Int)):lenL z k=(bl V:Int):=by
 rcases Nat.eq_zero_or_pos (sizeL z k) with h|h
 ·have h0:=(size_zero hz hv).1 h
  unfold lenL;rw [if_pos h,h0];rfl
 ·obtain ⟨L,h1,h2,h3⟩:=len_bd hz h
  rw [hv] at h2 h3
  have e:bl V=L+1:=by
   have e1:((2:Int)^L)=((2^L:Nat):Int):=by simp
   have e2:((2:Int)^(L+1))=((2^(L+1):Nat):Int):=by simp
   rw [e1] at h2
   rw [e2] at h3
   exact bl_eq (by rw [Nat.add_sub_cancel];omega) (by omega)
  rw [e,h1];omega
theorem size_bl {z:Nat->Int}{k V m:Nat}(hz:Words z)(hv:val z k=(V:Int)):sizeL z k<=m↔bl V<=64*m:=by
 have hl:=len_bl hz hv
 unfold lenL at hl
 rcases Nat.eq_zero_or_pos (sizeL z k) with h|h
 ·rw [if_pos h] at hl;omega
 ·rw [if_neg (by omega)] at hl
  have ht:=sizeL_top k h
  have hw:=hz (sizeL z k-1)
  have hb:=bitLen_spec (z (sizeL z k-1)).toNat (by omega) (by omega)
  omega
theorem nlen_v {K V:Nat}{v:Value}{w:World}(hK:K<100000000)(h:Nt K V v w) :
  CQ 71 #[v] w (.int .i64 (bl V:Int)):=by
 obtain ⟨a,k,cap,z,rfl,hk,hN,hv⟩:=h
 refine (nlen_any a k cap z w (by omega) hN).mono fun e w' ⟨h1,h2⟩=>⟨?_,h2⟩
 rw [h1,len_bl hN.2.2.1 hv]
theorem ncmp_v {K K' V V':Nat}{v v':Value}{w:World}(hK:K<100000000)(hK':K'<100000000)(h:Nt K V v w)(h':Nt K' V' v' w) :
  CB 73 #[v,v'] w (.int .i64 (sgn (V:Int) (V':Int))):=by
 obtain ⟨a,k,cap,z,rfl,hk,hN,hv⟩:=h
 obtain ⟨a',k',cap',z',rfl,hk',hN',hv'⟩:=h'
 have:=ncmp_b a a' k cap k' cap' z z' w (by omega) (by omega) hN hN'
 rw [hv,hv'] at this
 exact this
section
def knB (d:Int):Prop:=0<=d/\d<=4
instance (d:Int):Decidable (knB d):=inferInstanceAs (Decidable (_/\_))
def inB (d:Int)(s:Bool):Bool:=if d=0∨d=1 then true else if d=3 then !s else if d=4 then s else false
def faB (d:Int)(s odd:Bool)(R D:Nat):Bool:=if R=0 then false else if d=0 then decide (D<R+R)||(decide (R+R=D)&&odd) else if d=1 then decide (D<=R+R) else inB d s
theorem sgn_ways (a b:Int):(a<b/\sgn a b=-1)∨(a=b/\sgn a b=0)∨(b<a/\sgn a b=1):=by
 unfold sgn
 by_cases h:a<b
 ·exact Or.inl ⟨h,if_pos h⟩
 ·by_cases h':b<a
  ·exact Or.inr (Or.inr ⟨h',by rw [if_neg h,if_pos h']⟩)
  ·exact Or.inr (Or.inl ⟨by omega,by rw [if_neg h,if_neg h']⟩)
section
variable (d:Int)(s odd:Bool)(R D:Nat)(vr vd:Value)(w:World)
 (c26:∀ W,Below w.heap.size w W->CQ 71 #[vr] W (.int .i64 (bl R:Int)))
include c26
variable (hv:Int)(hR:(((bl R:Nat):Int)==0)=false)
 (c61:∀ W,Below w.heap.size w W->Calls Tryz.prog 165 #[vr,vr] W fun e w'=>∃ r,e=.returned r/\(∀ W',Below w'.heap.size w' W'->Calls Tryz.prog 73 #[r,vd] W' fun e w''=>e=.returned (.int .i64 hv)/\Below W'.heap.size W' w'')/\Below W.heap.size W w')
include hR c61
end
end
section
def ld (N D:Nat):Int:=let p:=(bl N:Int)-bl D;if N*2^(-p).toNat<D*2^p.toNat then p-1 else p
section
variable (vn vd:Value)(LN LD s:Int)(w:World)(hLN:0<=LN/\LN<=60000)(hLD:0<=LD/\LD<=60000)
 (c26:∀ W,Below w.heap.size w W->CQ 71 #[vn] W (.int .i64 LN))
 (c26d:∀ W,Below w.heap.size w W->CQ 71 #[vd] W (.int .i64 LD))
 (c57:∀ n:Int,n=-(LN-LD)->Calls Tryz.prog 138 #[vn,vd,.int .i64 n] w fun e w'=>∃ va vb,e=.returned (.tuple #[va,vb])/\(∀ W,Below w'.heap.size w' W->Calls Tryz.prog 73 #[va,vb] W fun e w''=>e=.returned (.int .i64 s)/\Below W.heap.size W w'')/\Below w.heap.size w w')
include hLN hLD c26 c26d c57
end
end
end Go.Proofs.YtgknbdehlmlipaaGreatDoor

namespace Go.Proofs.YtgknbdehlmlipaaGreatDoor
theorem bl_bd {V:Nat}(h:V≠0):2^(bl V-1)<=V/\V<2^bl V/\1<=bl V:=by
 have h0:bl V≠0:=fun e=>h (bl_zero.1 e)
 exact ⟨bl_ge.1 (by omega),bl_le.1 (Nat.le_refl _),by omega⟩
end Go.Proofs.YtgknbdehlmlipaaGreatDoor

namespace Go.Proofs.YtgknbdehlmlipaaGreatDoor
open Go.RowKit
theorem sgn_byc {a b:Nat}(c:Nat)(hc:0<c):sgn ((a*c:Nat):Int) ((b*c:Nat):Int)=sgn (a:Int) (b:Int):=by
 unfold sgn
 have h1:a*c<b*c↔a<b:=Nat.mul_lt_mul_right hc
 have h2:b*c<a*c↔b<a:=Nat.mul_lt_mul_right hc
 simp only [Int.ofNat_lt,h1,h2]
theorem rch_lo {T p q y k:Nat}(hpq:p<=q)(hp:2^p<=y^T)(hq:y^T<=2^q)(hk:k≠0){e L:Int}(hL:L=(T:Int)*((bl k:Int)-1)+(if 0<=e then (p:Int)*e else (q:Int)*e)) :
  (y^(-e).toNat)^T*2^L.toNat<=(k*y^e.toNat)^T*2^(-L).toNat:=by
 obtain ⟨b1,_,b3⟩:=bl_bd hk
 obtain ⟨c,hc⟩:∃ c:Nat,bl k=c+1:=⟨bl k-1,by omega⟩
 rw [hc,Nat.add_sub_cancel] at b1
 have hkT:2^(c*T)<=k^T:=by rw [Nat.pow_mul];exact Nat.pow_le_pow_left b1 T
 have hTc:(T:Int)*((bl k:Int)-1)=((c*T:Nat):Int):=by
  rw [hc,show (((c+1:Nat):Int)-1)=(c:Int) by omega,Int.natCast_mul,Int.mul_comm]
 rw [hTc] at hL
 rcases Int.le_total 0 e with he|he
 ·obtain ⟨n,rfl⟩:=Int.eq_ofNat_of_zero_le he
  rw [if_pos he,← Int.natCast_mul] at hL
  rw [show (-(n:Int)).toNat=0 by omega,show (-L).toNat=0 by omega,show L.toNat=c*T+p*n by omega,Int.toNat_natCast,Nat.pow_zero,Nat.pow_zero,Nat.one_pow,Nat.one_mul,Nat.mul_one,Nat.pow_add,Nat.mul_pow,← Nat.pow_mul,Nat.mul_comm n T,Nat.pow_mul y,Nat.pow_mul 2 p]
  exact Nat.mul_le_mul hkT (Nat.pow_le_pow_left hp n)
 ·obtain ⟨n,hn⟩:∃ n:Nat,e=-(n:Int):=⟨(-e).toNat,by omega⟩
  subst hn
  have h2:L=((c*T:Nat):Int)-((q*n:Nat):Int):=by
   split at hL
   ·have h0:n=0:=by omega
    subst h0
    simpa using hL
   ·rw [hL,Int.mul_neg,← Int.natCast_mul];omega
  rw [show (-(n:Int)).toNat=0 by omega,show (-(-(n:Int))).toNat=n by omega,Nat.pow_zero,Nat.mul_one,← Nat.pow_mul,Nat.mul_comm n T,Nat.pow_mul]
  calc (y^T)^n*2^L.toNat<=(2^q)^n*2^L.toNat:=Nat.mul_le_mul_right _ (Nat.pow_le_pow_left hq n)
   _=2^(c*T)*2^(-L).toNat:=by rw [← Nat.pow_mul,← Nat.pow_add,← Nat.pow_add];congr 1;omega
   _<=k^T*2^(-L).toNat:=Nat.mul_le_mul_right _ hkT
theorem rch_hi {T p q y k:Nat}(hT:T≠0)(hpq:p<=q)(hp:2^p<=y^T)(hq:y^T<=2^q)(hy:0<y)(hk:k≠0){e U:Int}(hU:U=(T:Int)*(bl k:Int)+(if 0<=e then (q:Int)*e else (p:Int)*e)) :
  (k*y^e.toNat)^T*2^(-U).toNat<(y^(-e).toNat)^T*2^U.toNat:=by
 obtain ⟨_,b2,b3⟩:=bl_bd hk
 have hkT:k^T<2^(bl k*T):=by rw [Nat.pow_mul];exact Nat.pow_lt_pow_left b2 hT
 have hTc:(T:Int)*(bl k:Int)=((bl k*T:Nat):Int):=by rw [Int.natCast_mul,Int.mul_comm]
 rw [hTc] at hU
 generalize bl k=c at *
 rcases Int.le_total 0 e with he|he
 ·obtain ⟨n,rfl⟩:=Int.eq_ofNat_of_zero_le he
  rw [if_pos he,← Int.natCast_mul] at hU
  rw [show (-(n:Int)).toNat=0 by omega,show (-U).toNat=0 by omega,show U.toNat=c*T+q*n by omega,Int.toNat_natCast,Nat.pow_zero,Nat.pow_zero,Nat.one_pow,Nat.one_mul,Nat.mul_one,Nat.pow_add,Nat.mul_pow,← Nat.pow_mul,Nat.mul_comm n T,Nat.pow_mul y,Nat.pow_mul 2 q]
  exact Nat.lt_of_lt_of_le (Nat.mul_lt_mul_of_pos_right hkT (Nat.pow_pos (Nat.pow_pos hy))) (Nat.mul_le_mul_left _ (Nat.pow_le_pow_left hq n))
 ·obtain ⟨n,hn⟩:∃ n:Nat,e=-(n:Int):=⟨(-e).toNat,by omega⟩
  subst hn
  have h2:U=((c*T:Nat):Int)-((p*n:Nat):Int):=by
   split at hU
   ·have h0:n=0:=by omega
    subst h0
    simpa using hU
   ·rw [hU,Int.mul_neg,← Int.natCast_mul];omega
  rw [show (-(n:Int)).toNat=0 by omega,show (-(-(n:Int))).toNat=n by omega,Nat.pow_zero,Nat.mul_one,← Nat.pow_mul,Nat.mul_comm n T,Nat.pow_mul]
  calc k^T*2^(-U).toNat<2^(c*T)*2^(-U).toNat:=Nat.mul_lt_mul_of_pos_right hkT (Nat.pow_pos (by decide))
   _=(2^p)^n*2^U.toNat:=by rw [← Nat.pow_mul,← Nat.pow_add,← Nat.pow_add];congr 1;omega
   _<=(y^T)^n*2^U.toNat:=Nat.mul_le_mul_right _ (Nat.pow_le_pow_left hp n)
theorem far_lt {T A B C D:Nat}{U L:Int}(hT:T≠0)(h1:A^T*2^(-U).toNat<B^T*2^U.toNat)(h2:D^T*2^L.toNat<=C^T*2^(-L).toNat)(h:U<=L)(hD:0<D):A*D<C*B:=by
 apply Nat.lt_of_not_le
 intro hle
 have hp:=Nat.pow_le_pow_left hle T
 rw [Nat.mul_pow,Nat.mul_pow] at hp
 have hDT:0<D^T:=Nat.pow_pos hD
 have k1:A^T*2^(-U).toNat*(D^T*2^L.toNat)<B^T*2^U.toNat*(C^T*2^(-L).toNat) :=
  Nat.lt_of_lt_of_le (Nat.mul_lt_mul_of_pos_right h1 (Nat.mul_pos hDT (Nat.pow_pos (by decide)))) (Nat.mul_le_mul_left _ h2)
 have k2:2^(U.toNat+(-L).toNat)<=2^((-U).toNat+L.toNat):=Nat.pow_le_pow_right (by decide) (by omega)
 rw [Nat.pow_add,Nat.pow_add] at k2
 have k3:C^T*B^T*(2^U.toNat*2^(-L).toNat)<=A^T*D^T*(2^(-U).toNat*2^L.toNat):=Nat.mul_le_mul hp k2
 rw [show A^T*2^(-U).toNat*(D^T*2^L.toNat)=A^T*D^T*(2^(-U).toNat*2^L.toNat) by ac_rfl,show B^T*2^U.toNat*(C^T*2^(-L).toNat)=C^T*B^T*(2^U.toNat*2^(-L).toNat) by ac_rfl] at k1
 omega
def rcL (x:Nat)(e:Int)(k:Nat):Int:=1000*((bl k:Int)-1)+(if x=10 then min (3321*e) (3322*e) else 1000*e)
def rcU (x:Nat)(e:Int)(k:Nat):Int:=1000*(bl k:Int)+(if x=10 then max (3321*e) (3322*e) else 1000*e)
theorem ten_bd:2^3321<=10^1000/\10^1000<=2^3322:=by
 have h:(decide (2^3321<=10^1000)&&decide (10^1000<=2^3322))=true:=by decide +kernel
 rw [Bool.and_eq_true,decide_eq_true_iff,decide_eq_true_iff] at h
 exact h
theorem rc_lo {x:Nat}(hx:x=2∨x=10){k:Nat}(hk:k≠0)(e:Int){T:Nat}(hT:T=1000):(x^(-e).toNat)^T*2^(rcL x e k).toNat<=(k*x^e.toNat)^T*2^(-(rcL x e k)).toNat:=by
 rcases hx with rfl|rfl
 ·have hL:rcL 2 e k=(T:Int)*((bl k:Int)-1)+(if 0<=e then (T:Int)*e else (T:Int)*e):=by
   unfold rcL;rw [if_neg (by decide),ite_self,hT];rfl
  exact rch_lo (T:=T) (p:=T) (q:=T) (y:=2) (Nat.le_refl _) (Nat.le_refl _) (Nat.le_refl _) hk hL
 ·have hL:rcL 10 e k=(T:Int)*((bl k:Int)-1)+(if 0<=e then ((3321:Nat):Int)*e else ((3322:Nat):Int)*e):=by
   unfold rcL;rw [if_pos rfl,hT]
   split<;>omega
  have h1:2^3321<=10^T:=by rw [hT];exact ten_bd.1
  have h2:10^T<=2^3322:=by rw [hT];exact ten_bd.2
  exact rch_lo (by decide) h1 h2 hk hL
theorem rc_hi {x:Nat}(hx:x=2∨x=10){k:Nat}(hk:k≠0)(e:Int){T:Nat}(hT:T=1000):(k*x^e.toNat)^T*2^(-(rcU x e k)).toNat<(x^(-e).toNat)^T*2^(rcU x e k).toNat:=by
 have h0:T≠0:=by omega
 rcases hx with rfl|rfl
 ·have hL:rcU 2 e k=(T:Int)*(bl k:Int)+(if 0<=e then (T:Int)*e else (T:Int)*e):=by
   unfold rcU;rw [if_neg (by decide),ite_self,hT];rfl
  exact rch_hi (T:=T) (p:=T) (q:=T) (y:=2) h0 (Nat.le_refl _) (Nat.le_refl _) (Nat.le_refl _) (by decide) hk hL
 ·have hL:rcU 10 e k=(T:Int)*(bl k:Int)+(if 0<=e then ((3322:Nat):Int)*e else ((3321:Nat):Int)*e):=by
   unfold rcU;rw [if_pos rfl,hT]
   split<;>omega
  have h1:2^3321<=10^T:=by rw [hT];exact ten_bd.1
  have h2:10^T<=2^3322:=by rw [hT];exact ten_bd.2
  exact rch_hi h0 (by decide) h1 h2 (by decide) hk hL
theorem rc_far {x y:Nat}(hx:x=2∨x=10)(hy:y=2∨y=10){k l:Nat}(hk:k≠0)(hl:l≠0){e f:Int}(h:rcU x e k<=rcL y f l) :
  k*x^e.toNat*(1*y^(-f).toNat)<l*y^f.toNat*(1*x^(-e).toNat):=by
 obtain ⟨T,hT⟩:∃ T:Nat,T=1000:=⟨_,rfl⟩
 rw [Nat.one_mul,Nat.one_mul]
 refine far_lt (T:=T) (U:=rcU x e k) (L:=rcL y f l) (by omega) (rc_hi hx hk e hT) (rc_lo hy hl f hT) h (Nat.pow_pos (by rcases hy with rfl|rfl<;>decide))
def fvE (x:Nat)(e:Int):Int:=if x=2 then 0 else e
def tmV (k:Nat)(t f:Int):Nat:=k*5^f.toNat*2^t.toNat
theorem tm_pow {x:Nat}(hx:x=2∨x=10)(e:Int):x^e.toNat=2^e.toNat*5^(fvE x e).toNat:=by
 rcases hx with rfl|rfl
 ·rw [show fvE 2 e=0 from rfl];simp
 ·rw [show fvE 10 e=e from rfl,← Nat.mul_pow]
theorem tm_pown {x:Nat}(hx:x=2∨x=10)(e:Int):x^(-e).toNat=2^(-e).toNat*5^(-(fvE x e)).toNat:=by
 have:=tm_pow hx (-e)
 rw [this]
 congr 3
 rcases hx with rfl|rfl<;>rfl
theorem rc_near {x y:Nat}(hx:x=2∨x=10)(hy:y=2∨y=10)(k l:Nat)(e f:Int) :
  sgn (tmV k (e-f) (fvE x e-fvE y f):Int) (tmV l (-(e-f)) (-(fvE x e-fvE y f)):Int)=sgn ((k*x^e.toNat*(1*y^(-f).toNat):Nat):Int) ((l*y^f.toNat*(1*x^(-e).toNat):Nat):Int):=by
 rw [Nat.one_mul,Nat.one_mul,tm_pow hx e,tm_pown hx e,tm_pow hy f,tm_pown hy f]
 generalize fvE x e=g
 generalize fvE y f=h
 have h1:k*(2^e.toNat*5^g.toNat)*(2^(-f).toNat*5^(-h).toNat)=tmV k (e-f) (g-h)*(2^(e.toNat+(-f).toNat-(e-f).toNat)*5^(g.toNat+(-h).toNat-(g-h).toNat)):=by
  unfold tmV
  rw [show k*5^(g-h).toNat*2^(e-f).toNat*(2^(e.toNat+(-f).toNat-(e-f).toNat)*5^(g.toNat+(-h).toNat-(g-h).toNat))=k*(2^(e-f).toNat*2^(e.toNat+(-f).toNat-(e-f).toNat))*(5^(g-h).toNat*5^(g.toNat+(-h).toNat-(g-h).toNat)) by ac_rfl,← Nat.pow_add,← Nat.pow_add,show (e-f).toNat+(e.toNat+(-f).toNat-(e-f).toNat)=e.toNat+(-f).toNat by omega,show (g-h).toNat+(g.toNat+(-h).toNat-(g-h).toNat)=g.toNat+(-h).toNat by omega,Nat.pow_add,Nat.pow_add]
  ac_rfl
 have h2:l*(2^f.toNat*5^h.toNat)*(2^(-e).toNat*5^(-g).toNat)=tmV l (-(e-f)) (-(g-h))*(2^(e.toNat+(-f).toNat-(e-f).toNat)*5^(g.toNat+(-h).toNat-(g-h).toNat)):=by
  unfold tmV
  rw [show l*5^(-(g-h)).toNat*2^(-(e-f)).toNat*(2^(e.toNat+(-f).toNat-(e-f).toNat)*5^(g.toNat+(-h).toNat-(g-h).toNat))=l*(2^(-(e-f)).toNat*2^(e.toNat+(-f).toNat-(e-f).toNat))*(5^(-(g-h)).toNat*5^(g.toNat+(-h).toNat-(g-h).toNat)) by ac_rfl,← Nat.pow_add,← Nat.pow_add,show (-(e-f)).toNat+(e.toNat+(-f).toNat-(e-f).toNat)=f.toNat+(-e).toNat by omega,show (-(g-h)).toNat+(g.toNat+(-h).toNat-(g-h).toNat)=h.toNat+(-g).toNat by omega,Nat.pow_add,Nat.pow_add]
  ac_rfl
 rw [h1,h2,sgn_byc _ (Nat.mul_pos (Nat.pow_pos (by decide)) (Nat.pow_pos (by decide)))]
def szV (c:Int)(k x:Nat)(e:Int)(d:Int)(l y:Nat)(f:Int):Int :=
 if c=2∨d=2 then sgn c d
 else if k=0∨l=0 then sgn (k:Int) (l:Int)
 else sgn ((k*x^e.toNat*(1*y^(-f).toNat):Nat):Int) ((l*y^f.toNat*(1*x^(-e).toNat):Nat):Int)
theorem rc_meet {x y:Nat}(hx:x=2∨x=10)(hy:y=2∨y=10){k l:Nat}(hk:k<2^256)(hl:l<2^256){e f:Int}(he:-20000<=e/\e<=20000)(hf:-20000<=f/\f<=20000)(hx10:x=10->-10000<=e/\e<=10000)(hy10:y=10->-10000<=f/\f<=10000)
  (h1:¬ rcU x e k<=rcL y f l) (h2:¬ rcU y f l<=rcL x e k):-12000<=fvE x e-fvE y f/\fvE x e-fvE y f<=12000:=by
 have a1:=bl_le.2 hk
 have a2:=bl_le.2 hl
 unfold rcU rcL at h1 h2
 unfold fvE
 rcases hx with rfl|rfl<;>rcases hy with rfl|rfl
 ·simp
 ·have:=hy10 rfl;simp only [if_pos,if_neg];simp;omega
 ·have:=hx10 rfl;simp;omega
 ·have:=hx10 rfl;have:=hy10 rfl
  rw [if_pos rfl,if_pos rfl] at h1 h2
  simp
  omega
end Go.Proofs.YtgknbdehlmlipaaGreatDoor
