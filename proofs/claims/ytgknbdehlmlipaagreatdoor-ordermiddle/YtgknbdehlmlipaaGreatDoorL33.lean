/-
  Texts that the proof leans on.
-/
import Derived.Test.YtgknbdehlmlipaaGreatDoorL30
import Derived.Test.YtgknbdehlmlipaaGreatDoorL22
import Derived.Test.YtgknbdehlmlipaaGreatDoorL24
import Derived.Test.YtgknbdehlmlipaaGreatDoorL2
import Derived.Deep.Cut
import Derived.Deep.CutRange
set_option linter.unusedVariables false
set_option linter.unusedSectionVars false
set_option linter.unusedSimpArgs false
set_option maxRecDepth 20000
namespace Go.Proofs.YtgknbdehlmlipaaGreatDoor
open Go.RowKit
def tpN (n:Int):Nat:=(2^eN n-1)*2^fN n
def sgN (n:Int)(s:Bool):Nat:=if s then 2^(fN n+eN n) else 0
def rB (n:Int)(N D:Nat)(x:Int):Nat:=(rQ n N D x-leastN n).toNat*2^fN n+nrQ N D (rX n N D x-rQ n N D x)
def rP (n d:Int)(s:Bool)(N D:Nat)(x:Int):Nat:=(rQ n N D x-leastN n).toNat*2^fN n+rC n d s N D x
def capV (T:Nat)(i:Bool)(p:Nat):Nat:=if T<=p then (if i then T else T-1) else p
theorem rP_eq (n d:Int)(s:Bool)(N D:Nat)(x:Int):rP n d s N D x=rB n N D x+if nrF d s N D (rX n N D x-rQ n N D x) then 1 else 0:=by
 unfold rP rB rC nrC
 cases nrF d s N D (rX n N D x-rQ n N D x)
 ·rfl
 ·simp only [if_true];omega
theorem r_coef {n:Int}(d:Int)(s:Bool){N D:Nat}(x:Int)(hb:binN n)(hN:N≠0)(hD:D≠0) :
  leastN n<=rQ n N D x/\rC n d s N D x<=2^(fN n+1)/\(rQ n N D x≠leastN n->2^fN n<=rC n d s N D x)/\((fN n:Int)+1<(bl (rC n d s N D x):Int)↔2^(fN n+1)<=rC n d s N D x):=by
 have hq:leastN n<=rQ n N D x:=Int.le_max_left _ _
 have hq2:ld N D+(rX n N D x-rQ n N D x)<=(fN n:Int):=by unfold rQ;omega
 have hlt:=nrQ_lt hN hD hq2
 have hge:rQ n N D x≠leastN n->2^fN n<=nrQ N D (rX n N D x-rQ n N D x):=fun h=>nrQ_ge hN hD (by unfold rQ at h ⊢;omega)
 have hC:rC n d s N D x=nrQ N D (rX n N D x-rQ n N D x)∨rC n d s N D x=nrQ N D (rX n N D x-rQ n N D x)+1:=by
  unfold rC nrC
  cases nrF d s N D (rX n N D x-rQ n N D x)
  ·exact Or.inl rfl
  ·exact Or.inr rfl
 refine ⟨hq,by omega,fun h=>by have:=hge h;omega,?_⟩
 rw [← bl_ge];omega
theorem r_over {n:Int}(d:Int)(s:Bool){N D:Nat}(x:Int)(hb:binN n)(hN:N≠0)(hD:D≠0):(mostN n<rQ' n d s N D x↔tpN n<=rP n d s N D x)/\(¬ mostN n<rQ' n d s N D x->(rQ' n d s N D x-leastN n).toNat*2^fN n+rC' n d s N D x=rP n d s N D x):=by
 obtain ⟨h1,h2,h3,h4⟩:=r_coef d s x hb hN hD
 have hF:=bin_fm hb
 have hp:=pow_e hF.e2 hF.e15
 have hm:=hF.m
 have hpc:((2:Int)^eN n)=((2^eN n:Nat):Int):=by simp
 rw [hpc] at hp hm
 unfold tpN rP rQ' rC'
 obtain ⟨a,ha⟩:∃ a:Nat,rQ n N D x=leastN n+a:=⟨(rQ n N D x-leastN n).toNat,by omega⟩
 rw [ha] at h1 h3 ⊢
 rw [show (leastN n+(a:Int)-leastN n).toNat=a by omega]
 rw [show 2^(fN n+1)=2^fN n+2^fN n by rw [Nat.pow_succ];omega] at h2 h4
 have hFp:0<2^fN n:=Nat.two_pow_pos _
 generalize rC n d s N D x=C at *
 generalize 2^fN n=F at *
 generalize 2^eN n=E at *
 generalize leastN n=l at *
 generalize mostN n=m at *
 obtain ⟨E',hE'⟩:∃ E':Nat,E=E'+3:=⟨E-3,by omega⟩
 subst hE'
 rw [show E'+3-1=E'+2 by omega]
 by_cases hu:(fN n:Int)+1<(bl C:Int)
 ·rw [if_pos hu,if_pos hu]
  have hC:C=F+F:=by have:=h4.1 hu;omega
  have e1:a*F+C=(a+2)*F:=by rw [hC,Nat.add_mul];omega
  rw [e1]
  refine ⟨⟨fun h=>Nat.mul_le_mul_right _ (by omega),fun h=>?_⟩,fun h=>?_⟩
  ·have:=Nat.le_of_mul_le_mul_right h hFp
   omega
  ·rw [show (l+(a:Int)+1-l).toNat=a+1 by omega,hC,show (F+F)/2=F by omega]
   rw [Nat.add_mul,Nat.add_mul];omega
 ·rw [if_neg hu,if_neg hu]
  have hC:C<F+F:=by
   have:=mt h4.2 hu;omega
  refine ⟨⟨fun h=>?_,fun h=>?_⟩,fun h=>?_⟩
  ·have hCF:=h3 (by omega)
   have:(E'+2)*F<=(a+1)*F:=Nat.mul_le_mul_right _ (by omega)
   rw [Nat.add_mul a] at this
   omega
  ·rcases Nat.lt_or_ge a (E'+1) with h5|h5
   ·have:(a+2)*F<=(E'+2)*F:=Nat.mul_le_mul_right _ (by omega)
    rw [Nat.add_mul a] at this
    omega
   ·omega
  ·rw [show (l+(a:Int)-l).toNat=a by omega]
theorem pk_fin {n:Int}{s:Bool}{q:Int}{c:Nat}(hb:binN n)(h:isD (fN n) (leastN n) (mostN n) ⟨1,s,false,q,c⟩):pkV n ⟨1,s,false,q,c⟩=(q-leastN n).toNat*2^fN n+c+sgN n s:=by
 unfold pkV sgN
 rw [if_pos ⟨hb,h⟩]
 unfold pk
 simp
theorem pk_inf {n:Int}{s:Bool}(hb:binN n):pkV n ⟨2,s,false,0,0⟩=tpN n+sgN n s:=by
 unfold pkV sgN tpN
 rw [if_pos ⟨hb,Or.inr (Or.inl ⟨rfl,rfl,rfl,rfl⟩)⟩]
 unfold pk
 simp
theorem lg_top {n:Int}{s:Bool}(hb:binN n):lgV n s=tpN n-1+sgN n s/\1<=tpN n:=by
 unfold lgV sgN tpN
 rw [if_pos hb]
 have hF:=bin_fm hb
 have hp:=pow_e hF.e2 hF.e15
 have hpc:((2:Int)^eN n)=((2^eN n:Nat):Int):=by simp
 rw [hpc] at hp
 have hFp:0<2^fN n:=Nat.two_pow_pos _
 generalize 2^fN n=F at *
 generalize 2^eN n=E at *
 obtain ⟨E',rfl⟩:∃ E':Nat,E=E'+2:=⟨E-2,by omega⟩
 rw [show E'+2-2=E' by omega,show E'+2-1=E'+1 by omega,Nat.add_mul]
 omega
theorem r_pat {n:Int}(d:Int)(s:Bool){N D:Nat}(x:Int)(hb:binN n)(hN:N≠0)(hD:D≠0):rdV n d s N D x=capV (tpN n) (inB d s) (rP n d s N D x)+sgN n s:=by
 obtain ⟨h1,h2⟩:=r_over d s x hb hN hD
 unfold rdV capV
 rw [if_neg hN]
 by_cases ho:mostN n<rQ' n d s N D x
 ·rw [if_pos ho,if_pos (h1.1 ho)]
  cases inB d s
  ·simp only [Bool.false_eq_true,if_false];exact (lg_top hb).1
  ·simp only [if_true];exact pk_inf hb
 ·rw [if_neg ho,if_neg (mt h1.2 ho),pk_fin hb (r_isD hb hN hD ho),h2 ho]
theorem r_flag {n:Int}(d:Int)(s:Bool){N D:Nat}(x:Int)(hb:binN n)(hN:N≠0)(hD:D≠0):rdF n d s N D x=if tpN n<=rP n d s N D x then 10 else if nrR N D (rX n N D x-rQ n N D x)=0 then 0 else if ld N D+rX n N D x<(fN n:Int)+leastN n then 12 else 8:=by
 obtain ⟨h1,h2⟩:=r_over d s x hb hN hD
 unfold rdF
 rw [if_neg hN]
 by_cases ho:mostN n<rQ' n d s N D x
 ·rw [if_pos ho,if_pos (h1.1 ho)]
 ·rw [if_neg ho,if_neg (mt h1.2 ho)]
  simp only [decide_eq_true_eq]
/-! the other sign -/
/-! a number of the format -/
theorem ld_mul {k b:Nat}(hk:k≠0)(hb:b≠0):ld (k*b) b=(bl k:Int)-1:=by
 obtain ⟨k1,k2,k3⟩:=bl_bd hk
 have hkb:k*b≠0:=Nat.mul_ne_zero hk hb
 obtain ⟨K,hK⟩:∃ K:Nat,K=bl b+2+bl (k*b):=⟨_,rfl⟩
 obtain ⟨h1,h2⟩:=ld_bd hkb hb K (by omega)
 have hl:(bl (k*b):Int)-bl b-1<=ld (k*b) b/\ld (k*b) b<=(bl (k*b):Int)-bl b:=by
  unfold ld;dsimp only;split<;>omega
 have hbp:0<b:=Nat.pos_of_ne_zero hb
 rw [Nat.mul_right_comm,Nat.mul_comm (k*2^K) b] at h1 h2
 have h1':=Nat.le_of_mul_le_mul_left h1 hbp
 have h2':=Nat.lt_of_mul_lt_mul_left h2
 have a1:2^((K:Int)+ld (k*b) b).toNat<2^(bl k+K):=by
  rw [Nat.pow_add]
  exact Nat.lt_of_le_of_lt h1' (Nat.mul_lt_mul_of_pos_right k2 (Nat.two_pow_pos _))
 have a2:2^(bl k-1+K)<2^((K:Int)+ld (k*b) b+1).toNat:=by
  rw [Nat.pow_add]
  exact Nat.lt_of_le_of_lt (Nat.mul_le_mul_right _ k1) h2'
 have b1:=(Nat.pow_lt_pow_iff_right (by decide:1<2)).1 a1
 have b2:=(Nat.pow_lt_pow_iff_right (by decide:1<2)).1 a2
 omega
def clZ (x:Int):Int:=min (max x (-200000)) 200000
def sN (N:Nat)(x:Int):Nat:=N*2^(clZ x).toNat
def whC (d:Int)(s:Bool)(A B:Nat):Nat:=if faB d s (decide (A/B%2=1)) (A%B) B then A/B+1 else A/B
theorem fa_sc (d:Int)(s o:Bool)(R D k:Nat)(hk:0<k):faB d s o (R*k) (D*k)=faB d s o R D:=by
 have e1:R*k=0↔R=0:=by rw [Nat.mul_eq_zero];omega
 have e2:D*k<R*k+R*k↔D<R+R:=by rw [← Nat.add_mul];exact Nat.mul_lt_mul_right hk
 have e3:R*k+R*k=D*k↔R+R=D:=by rw [← Nat.add_mul];exact Nat.mul_right_cancel_iff hk
 have e4:D*k<=R*k+R*k↔D<=R+R:=by rw [← Nat.add_mul];exact Nat.mul_le_mul_right_iff hk
 unfold faB
 simp only [e1,e2,e3,e4]
section
theorem rdir_any (d:Int)(w:World):CQ 19 #[.int .i64 d] w (.bool (decide (knB d))):=by
 by_cases h0:0<=d
 ·by_cases h4:d<=4
  ·have e:decide (knB d)=true:=by unfold knB;simp [h0,h4]
   rw [e]
   go_enter Tryz.func19,Tryz.ntmps19
   go_wp2
   go_ret
   exact ⟨by simp [h0,h4],rfl⟩
  ·have e:decide (knB d)=false:=by unfold knB;simp [h0,h4]
   rw [e]
   go_enter Tryz.func19,Tryz.ntmps19
   go_wp2
   go_ret
   exact ⟨by simp [h0,h4],rfl⟩
 ·have e:decide (knB d)=false:=by unfold knB;simp [h0]
  rw [e]
  go_enter Tryz.func19,Tryz.ntmps19
  go_wp2
  go_ret
  exact ⟨by simp [h0],rfl⟩
section
variable (x:Int)(vn vd:Value)(A B KK:Nat)(w:World)
end
end
def tN (A:Nat)(e:Int):Nat:=A*5^e.toNat
def tD (e:Int):Nat:=5^(-e).toNat
def tnG (N D:Nat)(e:Int):Prop:=D*10^e.toNat<=N*10^(-e).toNat
instance (N D:Nat) (e:Int):Decidable (tnG N D e):=inferInstanceAs (Decidable (_<=_))
theorem ten_pos (n:Nat):0<(10:Nat)^n:=Nat.pow_pos (by decide)
theorem tnG_add (N D p:Nat)(q:Int):tnG N D (q+p)↔D*10^q.toNat*10^p<=N*10^(-q).toNat:=by
 unfold tnG
 by_cases h0:0<=q
 ·rw [show (-(q+(p:Int))).toNat=0 by omega,show (-q).toNat=0 by omega,show (q+(p:Int)).toNat=q.toNat+p by omega,Nat.pow_add,Nat.mul_assoc]
 ·by_cases h1:0<=q+(p:Int)
  ·obtain ⟨a,ha⟩:∃ a:Nat,q=-(a:Int):=⟨(-q).toNat,by omega⟩
   obtain ⟨b,hb⟩:∃ b:Nat,p=a+b:=⟨p-a,by omega⟩
   subst hb
   rw [show (-(q+((a+b:Nat):Int))).toNat=0 by omega,show (-q).toNat=a by omega,show (q+((a+b:Nat):Int)).toNat=b by omega,show q.toNat=0 by omega,Nat.pow_zero,Nat.mul_one,Nat.mul_one,Nat.pow_add,Nat.mul_comm (10^a),← Nat.mul_assoc]
   exact (Nat.mul_le_mul_right_iff (ten_pos a)).symm
  ·obtain ⟨a,ha⟩:∃ a:Nat,q+(p:Int)=-(a:Int):=⟨(-(q+p)).toNat,by omega⟩
   rw [show (-(q+(p:Int))).toNat=a by omega,show (q+(p:Int)).toNat=0 by omega,show q.toNat=0 by omega,show (-q).toNat=a+p by omega,Nat.pow_zero,Nat.mul_one,Nat.pow_add,← Nat.mul_assoc]
   exact (Nat.mul_le_mul_right_iff (ten_pos p)).symm
theorem tnG_le {N D:Nat}{e e':Int}(h:tnG N D e)(he:e'<=e):tnG N D e':=by
 obtain ⟨p,rfl⟩:∃ p:Nat,e=e'+p:=⟨(e-e').toNat,by omega⟩
 have:=(tnG_add N D p e').1 h
 unfold tnG
 exact Nat.le_trans (Nat.le_mul_of_pos_right _ (ten_pos p)) this
def TnE (N D:Nat)(E:Int):Prop:=tnG N D E/\¬ tnG N D (E+1)
theorem TnE.only {N D:Nat}{E E':Int}(h:TnE N D E)(h':TnE N D E'):E=E':=by
 rcases Int.lt_trichotomy E E' with q|q|q
 ·exact absurd (tnG_le h'.1 (by omega)) h.2
 ·exact q
 ·exact absurd (tnG_le h.1 (by omega)) h'.2
def dkQ (f:DF)(E:Int):Int:=max f.l (E-3*f.j)
def dkA (N:Nat)(q:Int):Nat:=N*10^(-q).toNat
def dkZ (D:Nat)(q:Int):Nat:=D*10^q.toNat
def dkC0 (f:DF)(d:Int)(s:Bool)(N D:Nat)(E:Int):Nat:=whC d s (dkA N (dkQ f E)) (dkZ D (dkQ f E))
def dkX (f:DF)(N D:Nat)(E:Int):Bool:=decide (dkA N (dkQ f E)%dkZ D (dkQ f E)=0)
def dkC (f:DF)(d:Int)(s:Bool)(N D:Nat)(E:Int):Nat:=if 10^(3*f.j+1)<=dkC0 f d s N D E then 10^(3*f.j) else dkC0 f d s N D E
def dkE (f:DF)(d:Int)(s:Bool)(N D:Nat)(E:Int):Int:=if 10^(3*f.j+1)<=dkC0 f d s N D E then dkQ f E+1 else dkQ f E
def DF.m (f:DF):Int:=f.l+3*2^f.w-1
def mbr (m want:Int):Nat->Nat->Int->Nat×Int
 | 0,c,q=>(c,q)
 | k+1,c,q=>if q<want/\q<m/\c%10=0 then mbr m want k (c/10) (q+1) else (c,q)
def dkM (f:DF)(d:Int)(s:Bool)(N D:Nat)(E want:Int):Nat×Int:=mbr f.m want (f.m-dkE f d s N D E).toNat (dkC f d s N D E) (dkE f d s N D E)
def dkD (f:DF)(d:Int)(s:Bool)(N D:Nat)(E want:Int):Dat :=
 if f.m<dkE f d s N D E then (if inB d s then ⟨2,s,false,0,0⟩ else ⟨1,s,false,f.m,10^(3*f.j+1)-1⟩)
 else if dkX f N D E then ⟨1,s,false,(dkM f d s N D E want).2,(dkM f d s N D E want).1⟩ else ⟨1,s,false,dkE f d s N D E,dkC f d s N D E⟩
def dkF (f:DF)(d:Int)(s:Bool)(N D:Nat)(E:Int):Int :=
 if f.m<dkE f d s N D E then 10 else if dkX f N D E then 0 else if E<f.l+3*f.j then 12 else 8
end Go.Proofs.YtgknbdehlmlipaaGreatDoor
