/-
  Texts that the proof leans on.
-/
import Derived.Test.YtjfeaiaafbaobaaGreatDoorL23
import Derived.Test.YtjfeaiaafbaobaaGreatDoorL1
import Derived.Deep.Cut
import Derived.Deep.CutRange
import Derived.Test.YtjfeaiaafbaobaaGreatDoorL13
set_option linter.unusedVariables false
set_option linter.unusedSectionVars false
set_option linter.unusedSimpArgs false
set_option maxRecDepth 20000
namespace Go.Proofs.YtjfeaiaafbaobaaGreatDoor
open Go.RowKit
def clZ (x:Int):Int:=min (max x (-200000)) 200000
def sN (N:Nat)(x:Int):Nat:=N*2^(clZ x).toNat
def whC (d:Int)(s:Bool)(A B:Nat):Nat:=if faB d s (decide (A/B%2=1)) (A%B) B then A/B+1 else A/B
theorem sc_frac (N D a b:Nat){n:Int}(h:(a:Int)-b=n):∃ κ,N*2^a=N*2^n.toNat*2^κ/\D*2^b=D*2^(-n).toNat*2^κ:=by
 refine ⟨a-n.toNat,?_,?_⟩
 ·rw [Nat.mul_assoc,← Nat.pow_add];congr 2;omega
 ·rw [Nat.mul_assoc,← Nat.pow_add];congr 2;omega
theorem bl_shift {V:Nat}(h:V≠0)(a:Nat):bl (V*2^a)=bl V+a:=by
 obtain ⟨h1,h2,h3⟩:=bl_bd h
 refine bl_eq ?_ ?_
 ·rw [show bl V+a-1=(bl V-1)+a by omega,Nat.pow_add]
  exact Nat.mul_le_mul_right _ h1
 ·rw [Nat.pow_add]
  exact Nat.mul_lt_mul_of_pos_right h2 (Nat.two_pow_pos _)
theorem ld_shift {N D:Nat}(hN:N≠0)(hD:D≠0)(a b:Nat):ld (N*2^a) (D*2^b)=ld N D+((a:Int)-b):=by
 unfold ld
 dsimp only
 rw [bl_shift hN,bl_shift hD]
 obtain ⟨p,hp⟩:∃ p:Int,(bl N:Int)-bl D=p:=⟨_,rfl⟩
 obtain ⟨p',hp'⟩:∃ p':Int,((bl N+a:Nat):Int)-((bl D+b:Nat):Int)=p':=⟨_,rfl⟩
 rw [hp,hp']
 have hpp:p'=p+((a:Int)-b):=by omega
 obtain ⟨κ,e1,e2⟩:=sc_frac N D (a+(-p').toNat) (b+p'.toNat) (n:=-p) (by omega)
 rw [Nat.pow_add,← Nat.mul_assoc] at e1 e2
 rw [Int.neg_neg] at e2
 rw [e1,e2]
 have hk:=Nat.two_pow_pos κ
 by_cases h:N*2^(-p).toNat<D*2^p.toNat
 ·rw [if_pos h,if_pos (Nat.mul_lt_mul_of_pos_right h hk)];omega
 ·rw [if_neg h,if_neg (fun hh=>h (Nat.lt_of_mul_lt_mul_right hh))];omega
theorem fld_bd {n:Int}(hb:binN n):-17000<=leastN n/\leastN n<=mostN n/\mostN n<=17000/\fN n<=240/\1<=fN n:=by
 rcases bin_cases hb with rfl|rfl|rfl|rfl|rfl|rfl<;>simp [leastN,mostN,fN,precN]
section
theorem rdir_any (d:Int)(w:World):CQ 13 #[.int .i64 d] w (.bool (decide (knB d))):=by
 by_cases h0:0<=d
 ·by_cases h4:d<=4
  ·have e:decide (knB d)=true:=by unfold knB;simp [h0,h4]
   rw [e]
   go_enter Tryz.func13,Tryz.ntmps13
   go_wp2
   go_ret
   exact ⟨by simp [h0,h4],rfl⟩
  ·have e:decide (knB d)=false:=by unfold knB;simp [h0,h4]
   rw [e]
   go_enter Tryz.func13,Tryz.ntmps13
   go_wp2
   go_ret
   exact ⟨by simp [h0,h4],rfl⟩
 ·have e:decide (knB d)=false:=by unfold knB;simp [h0]
  rw [e]
  go_enter Tryz.func13,Tryz.ntmps13
  go_wp2
  go_ret
  exact ⟨by simp [h0],rfl⟩
section
variable (x:Int)(vn vd:Value)(A B KK:Nat)(w:World)
end
section
variable (vn vd:Value)(LN LD s:Int)(w:World)(hLN:0<=LN/\LN<=2000000)(hLD:0<=LD/\LD<=2000000)
 (c70:CQ 78 #[vn] w (.int .i64 LN))
 (c70d:CQ 78 #[vd] w (.int .i64 LD))
 (c67:∀ n:Int,n=-(LN-LD)->Calls Tryz.prog 71 #[vn,vd,.int .u64 2,.int .i64 n] w fun e w'=>∃ va vb,e=.returned (.tuple #[va,vb])/\(Calls Tryz.prog 73 #[va,vb] w' fun e w''=>e=.returned (.int .i64 s)/\w'=w'')/\Below w.heap.size w w')
include hLN hLD c70 c70d c67
end
end
theorem ld_ge {N D:Nat}(hN:N≠0)(hD:D≠0){k:Nat}(h:D*2^k<=N):(k:Int)<=ld N D:=by
 have hb:=(ld_bd hN hD (bl D+1+k) (by omega)).2
 have h1:D*2^(k+(bl D+1+k))<=N*2^(bl D+1+k):=by
  rw [Nat.pow_add,← Nat.mul_assoc];exact Nat.mul_le_mul_right _ h
 have h2:=Nat.lt_of_le_of_lt h1 hb
 have h3:=Nat.lt_of_mul_lt_mul_left h2
 have h4:=(Nat.pow_lt_pow_iff_right (by decide:1<2)).1 h3
 omega
theorem ld_le {N D:Nat}(hN:N≠0)(hD:D≠0){k:Nat}(h:N*2^k<=D):ld N D<=-(k:Int):=by
 obtain ⟨K,hK⟩:∃ K:Nat,K=bl D+1:=⟨_,rfl⟩
 have hb:=(ld_bd hN hD K (by omega)).1
 have hl1:-(bl D:Int)<=ld N D:=by
  have:=(bl_bd hN).2.2
  unfold ld;dsimp only;split<;>omega
 have h1:D*2^((K:Int)+ld N D).toNat*2^k<=D*2^K:=by
  have a1:=Nat.mul_le_mul_right (2^k) hb
  have a2:N*2^K*2^k<=D*2^K:=by rw [Nat.mul_right_comm];exact Nat.mul_le_mul_right _ h
  exact Nat.le_trans a1 a2
 rw [Nat.mul_assoc,← Nat.pow_add] at h1
 have h2:=Nat.le_of_mul_le_mul_left h1 (by omega)
 have h3:=(Nat.pow_le_pow_iff_right (by decide:1<2)).1 h2
 omega
theorem rd_over {n:Int}(d:Int)(s:Bool){N D:Nat}(x:Int)(hb:binN n)(hN:N≠0)(h:mostN n+((fN n:Int)+1)<=ld N D+x):rdV n d s N D x=(if inB d s then pkV n ⟨2,s,false,0,0⟩ else lgV n s)/\rdF n d s N D x=10:=by
 obtain ⟨f1,f2,f3,f4,f5⟩:=fld_bd hb
 have hX:rX n N D x=mostN n+((fN n:Int)+1)-ld N D:=by unfold rX wiZ;omega
 have hQ:mostN n<rQ n N D x:=by unfold rQ;rw [hX];omega
 have hQ':mostN n<rQ' n d s N D x:=by unfold rQ';split<;>omega
 unfold rdV rdF
 rw [if_neg hN,if_neg hN,if_pos hQ',if_pos hQ']
 exact ⟨rfl,rfl⟩
theorem rd_tiny {n:Int}(d:Int)(s:Bool){N D:Nat}(x:Int)(hb:binN n)(hN:N≠0)(hD:D≠0)(h:ld N D+x<=leastN n-2):rdV n d s N D x=pkV n ⟨1,s,false,leastN n,if tnB d s then 1 else 0⟩/\rdF n d s N D x=12:=by
 obtain ⟨f1,f2,f3,f4,f5⟩:=fld_bd hb
 have hX:rX n N D x=leastN n-2-ld N D:=by unfold rX wiZ;omega
 have hQ:rQ n N D x=leastN n:=by unfold rQ;rw [hX];omega
 obtain ⟨u1,u2,u3⟩:=nr_tiny (d:=d) (s:=s) hN hD (k:=rX n N D x-rQ n N D x) (by rw [hX,hQ];omega)
 have hC:rC n d s N D x=if tnB d s then 1 else 0:=by unfold rC nrC;rw [u1,u2]
 have hbl:¬ (fN n:Int)+1<(bl (rC n d s N D x):Int):=by
  rw [hC]
  have b0:bl 0=0:=by decide
  have b1:bl 1=1:=by decide
  split<;>omega
 have hC':rC' n d s N D x=if tnB d s then 1 else 0:=by unfold rC';rw [if_neg hbl,hC]
 have hQ':rQ' n d s N D x=leastN n:=by unfold rQ';rw [if_neg hbl,hQ]
 have hno:¬ mostN n<rQ' n d s N D x:=by rw [hQ'];omega
 refine ⟨by unfold rdV;rw [if_neg hN,if_neg hno,hQ',hC'],?_⟩
 unfold rdF
 rw [if_neg hN,if_neg hno,decide_eq_false u3,if_neg (show ¬ (false=true) by decide),decide_eq_true (show ld N D+rX n N D x<(fN n:Int)+leastN n by rw [hX];omega),if_pos rfl]
def tN (A:Nat)(e:Int):Nat:=A*5^e.toNat
def tD (e:Int):Nat:=5^(-e).toNat
theorem tD_ne (e:Int):tD e≠0:=Nat.pos_iff_ne_zero.1 (Nat.pow_pos (by decide))
theorem p10_split (k:Nat):10^k=5^k*2^k:=by rw [← Nat.mul_pow]
theorem p10_ge2 (k:Nat):2^(3*k)<=10^k:=by rw [Nat.pow_mul];exact Nat.pow_le_pow_left (by decide) k
theorem ten_far {A L:Nat}(hL:1<=L)(h1:10^(L-1)<=A){e:Int}(he:0<=e)(h:6000<=e+L):17997<=ld (tN A e) (tD e)+e:=by
 have hA:A≠0:=by have:=Nat.pow_pos (n:=L-1) (show 0<10 by decide);omega
 have hT:tN A e≠0:=Nat.mul_ne_zero hA (Nat.pos_iff_ne_zero.1 (Nat.pow_pos (by decide)))
 have e1:tD e=1:=by unfold tD;rw [show (-e).toNat=0 by omega,Nat.pow_zero]
 have hs:=ld_shift hT (D:=1) (by decide) e.toNat 0
 rw [Nat.pow_zero,Nat.mul_one] at hs
 have hp:tN A e*2^e.toNat=A*10^e.toNat:=by unfold tN;rw [Nat.mul_assoc,← p10_split]
 obtain ⟨M,hM⟩:∃ M:Nat,M=5999:=⟨_,rfl⟩
 have hg:1*2^(3*M)<=tN A e*2^e.toNat:=by
  rw [hp,Nat.one_mul]
  have a1:10^(L-1)*10^e.toNat<=A*10^e.toNat:=Nat.mul_le_mul_right _ h1
  rw [← Nat.pow_add] at a1
  have a2:10^M<=10^(L-1+e.toNat):=Nat.pow_le_pow_right (by decide) (by omega)
  exact Nat.le_trans (p10_ge2 M) (Nat.le_trans a2 a1)
 have hge:=ld_ge (Nat.mul_ne_zero hT (Nat.pos_iff_ne_zero.1 (Nat.two_pow_pos _))) (by decide:(1:Nat)≠0) hg
 rw [e1]
 rw [hs] at hge
 omega
theorem ten_small {A L:Nat}(hA:A≠0)(h1:A<10^L){e:Int}(h:e+L<=-6000):ld (tN A e) (tD e)+e<=-18000:=by
 have e1:tN A e=A:=by unfold tN;rw [show e.toNat=0 by omega,Nat.pow_zero,Nat.mul_one]
 have hs:=ld_shift hA (tD_ne e) 0 (-e).toNat
 rw [Nat.pow_zero,Nat.mul_one] at hs
 have hp:tD e*2^(-e).toNat=10^(-e).toNat:=by unfold tD;rw [← p10_split]
 obtain ⟨M,hM⟩:∃ M:Nat,M=6000:=⟨_,rfl⟩
 have hg:A*2^(3*M)<=tD e*2^(-e).toNat:=by
  rw [hp,show (-e).toNat=L+((-e).toNat-L) by omega,Nat.pow_add]
  have a2:10^M<=10^((-e).toNat-L):=Nat.pow_le_pow_right (by decide) (by omega)
  exact Nat.mul_le_mul (Nat.le_of_lt h1) (Nat.le_trans (p10_ge2 M) a2)
 have hle:=ld_le hA (Nat.mul_ne_zero (tD_ne e) (Nat.pos_iff_ne_zero.1 (Nat.two_pow_pos _))) hg
 rw [hs] at hle
 rw [e1]
 omega
def pwE (L:Nat)(e:Int):Int:=min (max e (-6000-L)) (6000-L)
def dwE (e:Int):Int:=min (max e (-12000)) 12000
theorem ten_eq {n:Int}(d:Int)(s:Bool){A L:Nat}(hb:binN n)(hL:1<=L/\L<=4000)(h1:10^(L-1)<=A)(h2:A<10^L)(e:Int) :
  rdV n d s (tN A (pwE L e)) (tD (pwE L e)) (pwE L e)=rdV n d s (tN A (dwE e)) (tD (dwE e)) (dwE e)/\rdF n d s (tN A (pwE L e)) (tD (pwE L e)) (pwE L e)=rdF n d s (tN A (dwE e)) (tD (dwE e)) (dwE e):=by
 obtain ⟨f1,f2,f3,f4,f5⟩:=fld_bd hb
 have hA:A≠0:=by have:=Nat.pow_pos (n:=L-1) (show 0<10 by decide);omega
 have hT:∀ e,tN A e≠0:=fun e=>Nat.mul_ne_zero hA (Nat.pos_iff_ne_zero.1 (Nat.pow_pos (by decide)))
 by_cases ho:6000-(L:Int)<e
 ·have hp:pwE L e=6000-L:=by unfold pwE;omega
  have hd:6000-(L:Int)<=dwE e:=by unfold dwE;omega
  have a1:=ten_far hL.1 h1 (e:=pwE L e) (by omega) (by omega)
  have a2:=ten_far hL.1 h1 (e:=dwE e) (by omega) (by omega)
  have b1:=rd_over d s (N:=tN A (pwE L e)) (D:=tD (pwE L e)) (pwE L e) hb (hT _) (by omega)
  have b2:=rd_over d s (N:=tN A (dwE e)) (D:=tD (dwE e)) (dwE e) hb (hT _) (by omega)
  exact ⟨b1.1.trans b2.1.symm,b1.2.trans b2.2.symm⟩
 ·by_cases hs:e < -6000-(L:Int)
  ·have hp:pwE L e=-6000-L:=by unfold pwE;omega
   have hd:dwE e<=-6000-(L:Int):=by unfold dwE;omega
   have a1:=ten_small hA h2 (e:=pwE L e) (by omega)
   have a2:=ten_small hA h2 (e:=dwE e) (by omega)
   have b1:=rd_tiny d s (N:=tN A (pwE L e)) (D:=tD (pwE L e)) (pwE L e) hb (hT _) (tD_ne _) (by omega)
   have b2:=rd_tiny d s (N:=tN A (dwE e)) (D:=tD (dwE e)) (dwE e) hb (hT _) (tD_ne _) (by omega)
   exact ⟨b1.1.trans b2.1.symm,b1.2.trans b2.2.symm⟩
  ·have hp:pwE L e=e:=by unfold pwE;omega
   have hd:dwE e=e:=by unfold dwE;omega
   rw [hp,hd]
   exact ⟨rfl,rfl⟩
def tnG (N D:Nat)(e:Int):Prop:=D*10^e.toNat<=N*10^(-e).toNat
instance (N D:Nat) (e:Int):Decidable (tnG N D e):=inferInstanceAs (Decidable (_<=_))
theorem ten_pos (n:Nat):0<(10:Nat)^n:=Nat.pow_pos (by decide)
theorem tnG_add (N D p:Nat)(q:Int):tnG N D (q+p)↔D*10^q.toNat*10^p<=N*10^(-q).toNat:=by
 unfold tnG
 by_cases h0:0<=q
 ·rw [show (-(q+(p:Int))).toNat=0 by omega,show (-q).toNat=0 by omega,show (q+(p:Int)).toNat=q.toNat+p by omega,Nat.pow_add,Nat.mul_assoc]
 ·by_cases h1:0<=q+(p:Int)
  ·obtain ⟨a,ha⟩:∃ a:Nat,q=-(a:Int):=⟨(-q).toNat,by omega⟩
   obtain ⟨b,hb⟩:∃ b:Nat,p=a+b:=⟨p-a,by omega⟩
   subst hb
   rw [show (-(q+((a+b:Nat):Int))).toNat=0 by omega,show (-q).toNat=a by omega,show (q+((a+b:Nat):Int)).toNat=b by omega,show q.toNat=0 by omega,Nat.pow_zero,Nat.mul_one,Nat.mul_one,Nat.pow_add,Nat.mul_comm (10^a),← Nat.mul_assoc]
   exact (Nat.mul_le_mul_right_iff (ten_pos a)).symm
  ·obtain ⟨a,ha⟩:∃ a:Nat,q+(p:Int)=-(a:Int):=⟨(-(q+p)).toNat,by omega⟩
   rw [show (-(q+(p:Int))).toNat=a by omega,show (q+(p:Int)).toNat=0 by omega,show q.toNat=0 by omega,show (-q).toNat=a+p by omega,Nat.pow_zero,Nat.mul_one,Nat.pow_add,← Nat.mul_assoc]
   exact (Nat.mul_le_mul_right_iff (ten_pos p)).symm
theorem tnG_le {N D:Nat}{e e':Int}(h:tnG N D e)(he:e'<=e):tnG N D e':=by
 obtain ⟨p,rfl⟩:∃ p:Nat,e=e'+p:=⟨(e-e').toNat,by omega⟩
 have:=(tnG_add N D p e').1 h
 unfold tnG
 exact Nat.le_trans (Nat.le_mul_of_pos_right _ (ten_pos p)) this
def TnE (N D:Nat)(E:Int):Prop:=tnG N D E/\¬ tnG N D (E+1)
theorem TnE.only {N D:Nat}{E E':Int}(h:TnE N D E)(h':TnE N D E'):E=E':=by
 rcases Int.lt_trichotomy E E' with q|q|q
 ·exact absurd (tnG_le h'.1 (by omega)) h.2
 ·exact q
 ·exact absurd (tnG_le h.1 (by omega)) h'.2
def dkQ (f:DF)(E:Int):Int:=max f.l (E-3*f.j)
def dkA (N:Nat)(q:Int):Nat:=N*10^(-q).toNat
def dkZ (D:Nat)(q:Int):Nat:=D*10^q.toNat
def dkC0 (f:DF)(d:Int)(s:Bool)(N D:Nat)(E:Int):Nat:=whC d s (dkA N (dkQ f E)) (dkZ D (dkQ f E))
def dkX (f:DF)(N D:Nat)(E:Int):Bool:=decide (dkA N (dkQ f E)%dkZ D (dkQ f E)=0)
def dkC (f:DF)(d:Int)(s:Bool)(N D:Nat)(E:Int):Nat:=if 10^(3*f.j+1)<=dkC0 f d s N D E then 10^(3*f.j) else dkC0 f d s N D E
def dkE (f:DF)(d:Int)(s:Bool)(N D:Nat)(E:Int):Int:=if 10^(3*f.j+1)<=dkC0 f d s N D E then dkQ f E+1 else dkQ f E
def DF.m (f:DF):Int:=f.l+3*2^f.w-1
def mbr (m want:Int):Nat->Nat->Int->Nat×Int
 | 0,c,q=>(c,q)
 | k+1,c,q=>if q<want/\q<m/\c%10=0 then mbr m want k (c/10) (q+1) else (c,q)
def dkM (f:DF)(d:Int)(s:Bool)(N D:Nat)(E want:Int):Nat×Int:=mbr f.m want (f.m-dkE f d s N D E).toNat (dkC f d s N D E) (dkE f d s N D E)
def dkD (f:DF)(d:Int)(s:Bool)(N D:Nat)(E want:Int):Dat :=
 if f.m<dkE f d s N D E then (if inB d s then ⟨2,s,false,0,0⟩ else ⟨1,s,false,f.m,10^(3*f.j+1)-1⟩)
 else if dkX f N D E then ⟨1,s,false,(dkM f d s N D E want).2,(dkM f d s N D E want).1⟩ else ⟨1,s,false,dkE f d s N D E,dkC f d s N D E⟩
def dkF (f:DF)(d:Int)(s:Bool)(N D:Nat)(E:Int):Int :=
 if f.m<dkE f d s N D E then 10 else if dkX f N D E then 0 else if E<f.l+3*f.j then 12 else 8
end Go.Proofs.YtjfeaiaafbaobaaGreatDoor
