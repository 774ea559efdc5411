/-
  Texts that the proof leans on.
-/
import Derived.Test.YtahfkpjhlbiamaaGreatDoorL29
import Derived.Test.YtahfkpjhlbiamaaGreatDoorL1
import Derived.Deep.Cut
import Derived.Deep.CutRange
import Derived.Test.YtahfkpjhlbiamaaGreatDoorL19
import Derived.Test.YtahfkpjhlbiamaaGreatDoorL21
import Derived.Test.YtahfkpjhlbiamaaGreatDoorL28
import Derived.Test.YtahfkpjhlbiamaaGreatDoorL15
set_option linter.unusedVariables false
set_option linter.unusedSectionVars false
set_option linter.unusedSimpArgs false
set_option maxRecDepth 20000
namespace Go.Proofs.YtahfkpjhlbiamaaGreatDoor
open Go.RowKit
def clZ (x:Int):Int:=min (max x (-200000)) 200000
def sN (N:Nat)(x:Int):Nat:=N*2^(clZ x).toNat
def whC (d:Int)(s:Bool)(A B:Nat):Nat:=if faB d s (decide (A/B%2=1)) (A%B) B then A/B+1 else A/B
theorem sc_frac (N D a b:Nat){n:Int}(h:(a:Int)-b=n):∃ κ,N*2^a=N*2^n.toNat*2^κ/\D*2^b=D*2^(-n).toNat*2^κ:=by
 refine ⟨a-n.toNat,?_,?_⟩
 ·rw [Nat.mul_assoc,← Nat.pow_add];congr 2;omega
 ·rw [Nat.mul_assoc,← Nat.pow_add];congr 2;omega
theorem fa_sc (d:Int)(s o:Bool)(R D k:Nat)(hk:0<k):faB d s o (R*k) (D*k)=faB d s o R D:=by
 have e1:R*k=0↔R=0:=by rw [Nat.mul_eq_zero];omega
 have e2:D*k<R*k+R*k↔D<R+R:=by rw [← Nat.add_mul];exact Nat.mul_lt_mul_right hk
 have e3:R*k+R*k=D*k↔R+R=D:=by rw [← Nat.add_mul];exact Nat.mul_right_cancel_iff hk
 have e4:D*k<=R*k+R*k↔D<=R+R:=by rw [← Nat.add_mul];exact Nat.mul_le_mul_right_iff hk
 unfold faB
 simp only [e1,e2,e3,e4]
theorem wh_sc (d:Int)(s:Bool)(N D a b:Nat){n:Int}(h:(a:Int)-b=n):whC d s (N*2^a) (D*2^b)=nrC d s N D n/\(N*2^a%(D*2^b)=0↔nrR N D n=0):=by
 obtain ⟨κ,e1,e2⟩:=sc_frac N D a b h
 have hk:=Nat.two_pow_pos κ
 rw [e1,e2]
 unfold whC nrC nrF nrQ nrR
 rw [Nat.mul_div_mul_right _ _ hk,Nat.mul_mod_mul_right,fa_sc d s _ _ _ _ hk]
 refine ⟨rfl,?_⟩
 rw [Nat.mul_eq_zero];omega
theorem bl_shift {V:Nat}(h:V≠0)(a:Nat):bl (V*2^a)=bl V+a:=by
 obtain ⟨h1,h2,h3⟩:=bl_bd h
 refine bl_eq ?_ ?_
 ·rw [show bl V+a-1=(bl V-1)+a by omega,Nat.pow_add]
  exact Nat.mul_le_mul_right _ h1
 ·rw [Nat.pow_add]
  exact Nat.mul_lt_mul_of_pos_right h2 (Nat.two_pow_pos _)
theorem ld_shift {N D:Nat}(hN:N≠0)(hD:D≠0)(a b:Nat):ld (N*2^a) (D*2^b)=ld N D+((a:Int)-b):=by
 unfold ld
 dsimp only
 rw [bl_shift hN,bl_shift hD]
 obtain ⟨p,hp⟩:∃ p:Int,(bl N:Int)-bl D=p:=⟨_,rfl⟩
 obtain ⟨p',hp'⟩:∃ p':Int,((bl N+a:Nat):Int)-((bl D+b:Nat):Int)=p':=⟨_,rfl⟩
 rw [hp,hp']
 have hpp:p'=p+((a:Int)-b):=by omega
 obtain ⟨κ,e1,e2⟩:=sc_frac N D (a+(-p').toNat) (b+p'.toNat) (n:=-p) (by omega)
 rw [Nat.pow_add,← Nat.mul_assoc] at e1 e2
 rw [Int.neg_neg] at e2
 rw [e1,e2]
 have hk:=Nat.two_pow_pos κ
 by_cases h:N*2^(-p).toNat<D*2^p.toNat
 ·rw [if_pos h,if_pos (Nat.mul_lt_mul_of_pos_right h hk)];omega
 ·rw [if_neg h,if_neg (fun hh=>h (Nat.lt_of_mul_lt_mul_right hh))];omega
section
theorem rdir_any (d:Int)(w:World):CQ 16 #[.int .i64 d] w (.bool (decide (knB d))):=by
 by_cases h0:0<=d
 ·by_cases h4:d<=4
  ·have e:decide (knB d)=true:=by unfold knB;simp [h0,h4]
   rw [e]
   go_enter Tryz.func16,Tryz.ntmps16
   go_wp2
   go_ret
   exact ⟨by simp [h0,h4],rfl⟩
  ·have e:decide (knB d)=false:=by unfold knB;simp [h0,h4]
   rw [e]
   go_enter Tryz.func16,Tryz.ntmps16
   go_wp2
   go_ret
   exact ⟨by simp [h0,h4],rfl⟩
 ·have e:decide (knB d)=false:=by unfold knB;simp [h0]
  rw [e]
  go_enter Tryz.func16,Tryz.ntmps16
  go_wp2
  go_ret
  exact ⟨by simp [h0],rfl⟩
section
variable (x:Int)(vn vd:Value)(A B KK:Nat)(w:World)
end
end
theorem nr_shift (d:Int)(s:Bool)(N D a b:Nat)(k:Int):nrC d s (N*2^a) (D*2^b) k=nrC d s N D (k+((a:Int)-b))/\(nrR (N*2^a) (D*2^b) k=0↔nrR N D (k+((a:Int)-b))=0):=by
 have h:=wh_sc d s N D (a+k.toNat) (b+(-k).toNat) (n:=k+((a:Int)-b)) (by omega)
 rw [Nat.pow_add,Nat.pow_add,← Nat.mul_assoc,← Nat.mul_assoc] at h
 exact h
theorem rX_shift {n:Int}{N D:Nat}(hN:N≠0)(hD:D≠0)(a b:Nat)(x:Int):rX n (N*2^a) (D*2^b) x=rX n N D (x+((a:Int)-b))-((a:Int)-b):=by
 unfold rX wiZ
 rw [ld_shift hN hD]
 omega
theorem rd_shift (n d:Int)(s:Bool)(N:Nat){D:Nat}(hD:D≠0)(a b:Nat)(x:Int):rdV n d s (N*2^a) (D*2^b) x=rdV n d s N D (x+((a:Int)-b))/\rdF n d s (N*2^a) (D*2^b) x=rdF n d s N D (x+((a:Int)-b)):=by
 by_cases hN:N=0
 ·subst hN
  rw [Nat.zero_mul]
  unfold rdV rdF
  rw [if_pos rfl,if_pos rfl,if_pos rfl,if_pos rfl]
  exact ⟨rfl,rfl⟩
 have hN':N*2^a≠0:=Nat.mul_ne_zero hN (Nat.pos_iff_ne_zero.1 (Nat.two_pow_pos _))
 have eX:=rX_shift (n:=n) hN hD a b x
 have eL:=ld_shift hN hD a b
 have eQ:rQ n (N*2^a) (D*2^b) x=rQ n N D (x+((a:Int)-b)):=by
  unfold rQ;rw [eX,eL];congr 1;omega
 have hk:=nr_shift d s N D a b (rX n (N*2^a) (D*2^b) x-rQ n (N*2^a) (D*2^b) x)
 rw [show rX n (N*2^a) (D*2^b) x-rQ n (N*2^a) (D*2^b) x+((a:Int)-b)=rX n N D (x+((a:Int)-b))-rQ n N D (x+((a:Int)-b)) by rw [eX,eQ];omega] at hk
 have eC:rC n d s (N*2^a) (D*2^b) x=rC n d s N D (x+((a:Int)-b)):=hk.1
 have eC':rC' n d s (N*2^a) (D*2^b) x=rC' n d s N D (x+((a:Int)-b)):=by unfold rC';rw [eC]
 have eQ':rQ' n d s (N*2^a) (D*2^b) x=rQ' n d s N D (x+((a:Int)-b)):=by unfold rQ';rw [eC,eQ]
 have eS:ld (N*2^a) (D*2^b)+rX n (N*2^a) (D*2^b) x=ld N D+rX n N D (x+((a:Int)-b)):=by rw [eX,eL];omega
 unfold rdV rdF
 rw [if_neg hN,if_neg hN,if_neg hN',if_neg hN',eC',eQ',eS]
 refine ⟨rfl,?_⟩
 simp only [hk.2]
theorem ld_ge {N D:Nat}(hN:N≠0)(hD:D≠0){k:Nat}(h:D*2^k<=N):(k:Int)<=ld N D:=by
 have hb:=(ld_bd hN hD (bl D+1+k) (by omega)).2
 have h1:D*2^(k+(bl D+1+k))<=N*2^(bl D+1+k):=by
  rw [Nat.pow_add,← Nat.mul_assoc];exact Nat.mul_le_mul_right _ h
 have h2:=Nat.lt_of_le_of_lt h1 hb
 have h3:=Nat.lt_of_mul_lt_mul_left h2
 have h4:=(Nat.pow_lt_pow_iff_right (by decide:1<2)).1 h3
 omega
def tN (A:Nat)(e:Int):Nat:=A*5^e.toNat
def tD (e:Int):Nat:=5^(-e).toNat
theorem tD_ne (e:Int):tD e≠0:=Nat.pos_iff_ne_zero.1 (Nat.pow_pos (by decide))
theorem p10_split (k:Nat):10^k=5^k*2^k:=by rw [← Nat.mul_pow]
theorem ten_shift (n d:Int)(s:Bool)(A:Nat)(e:Int):rdV n d s (A*10^e.toNat) (10^(-e).toNat) 0=rdV n d s (tN A e) (tD e) e/\rdF n d s (A*10^e.toNat) (10^(-e).toNat) 0=rdF n d s (tN A e) (tD e) e:=by
 have h:=rd_shift n d s (tN A e) (tD_ne e) e.toNat (-e).toNat 0
 unfold tN tD at h ⊢
 rw [Nat.mul_assoc,← p10_split,← p10_split,show (0:Int)+((e.toNat:Int)-((-e).toNat:Int))=e by omega] at h
 exact h
def tnG (N D:Nat)(e:Int):Prop:=D*10^e.toNat<=N*10^(-e).toNat
instance (N D:Nat) (e:Int):Decidable (tnG N D e):=inferInstanceAs (Decidable (_<=_))
theorem ten_pos (n:Nat):0<(10:Nat)^n:=Nat.pow_pos (by decide)
theorem tnG_add (N D p:Nat)(q:Int):tnG N D (q+p)↔D*10^q.toNat*10^p<=N*10^(-q).toNat:=by
 unfold tnG
 by_cases h0:0<=q
 ·rw [show (-(q+(p:Int))).toNat=0 by omega,show (-q).toNat=0 by omega,show (q+(p:Int)).toNat=q.toNat+p by omega,Nat.pow_add,Nat.mul_assoc]
 ·by_cases h1:0<=q+(p:Int)
  ·obtain ⟨a,ha⟩:∃ a:Nat,q=-(a:Int):=⟨(-q).toNat,by omega⟩
   obtain ⟨b,hb⟩:∃ b:Nat,p=a+b:=⟨p-a,by omega⟩
   subst hb
   rw [show (-(q+((a+b:Nat):Int))).toNat=0 by omega,show (-q).toNat=a by omega,show (q+((a+b:Nat):Int)).toNat=b by omega,show q.toNat=0 by omega,Nat.pow_zero,Nat.mul_one,Nat.mul_one,Nat.pow_add,Nat.mul_comm (10^a),← Nat.mul_assoc]
   exact (Nat.mul_le_mul_right_iff (ten_pos a)).symm
  ·obtain ⟨a,ha⟩:∃ a:Nat,q+(p:Int)=-(a:Int):=⟨(-(q+p)).toNat,by omega⟩
   rw [show (-(q+(p:Int))).toNat=a by omega,show (q+(p:Int)).toNat=0 by omega,show q.toNat=0 by omega,show (-q).toNat=a+p by omega,Nat.pow_zero,Nat.mul_one,Nat.pow_add,← Nat.mul_assoc]
   exact (Nat.mul_le_mul_right_iff (ten_pos p)).symm
theorem tnG_le {N D:Nat}{e e':Int}(h:tnG N D e)(he:e'<=e):tnG N D e':=by
 obtain ⟨p,rfl⟩:∃ p:Nat,e=e'+p:=⟨(e-e').toNat,by omega⟩
 have:=(tnG_add N D p e').1 h
 unfold tnG
 exact Nat.le_trans (Nat.le_mul_of_pos_right _ (ten_pos p)) this
def TnE (N D:Nat)(E:Int):Prop:=tnG N D E/\¬ tnG N D (E+1)
theorem TnE.only {N D:Nat}{E E':Int}(h:TnE N D E)(h':TnE N D E'):E=E':=by
 rcases Int.lt_trichotomy E E' with q|q|q
 ·exact absurd (tnG_le h'.1 (by omega)) h.2
 ·exact q
 ·exact absurd (tnG_le h.1 (by omega)) h'.2
def dkQ (f:DF)(E:Int):Int:=max f.l (E-3*f.j)
def dkA (N:Nat)(q:Int):Nat:=N*10^(-q).toNat
def dkZ (D:Nat)(q:Int):Nat:=D*10^q.toNat
theorem dkZ_pos {D:Nat}(h:0<D)(q:Int):0<dkZ D q:=Nat.mul_pos h (ten_pos _)
theorem dk_lt {f:DF}{N D:Nat}{E:Int}(h:TnE N D E):dkA N (dkQ f E)<dkZ D (dkQ f E)*10^(3*f.j+1):=by
 have hq:E+1<=dkQ f E+((3*f.j+1:Nat):Int):=by unfold dkQ;omega
 have h1:¬ tnG N D (dkQ f E+((3*f.j+1:Nat):Int)):=fun q=>h.2 (tnG_le q hq)
 rw [tnG_add] at h1
 unfold dkA dkZ
 omega
def dkC0 (f:DF)(d:Int)(s:Bool)(N D:Nat)(E:Int):Nat:=whC d s (dkA N (dkQ f E)) (dkZ D (dkQ f E))
theorem whC_le {d:Int}{s:Bool}{A B:Nat}:A/B<=whC d s A B/\whC d s A B<=A/B+1:=by
 unfold whC
 split<;>omega
theorem dkC0_le {f:DF}{d:Int}{s:Bool}{N D:Nat}{E:Int}(hD:0<D)(h:TnE N D E):dkC0 f d s N D E<=10^(3*f.j+1):=by
 have h1:=dk_lt (f:=f) h
 have h2:=(whC_le (d:=d) (s:=s) (A:=dkA N (dkQ f E)) (B:=dkZ D (dkQ f E))).2
 have h3:dkA N (dkQ f E)/dkZ D (dkQ f E)<10^(3*f.j+1):=by
  rw [Nat.div_lt_iff_lt_mul (dkZ_pos hD _),Nat.mul_comm];exact h1
 unfold dkC0
 omega
def dkX (f:DF)(N D:Nat)(E:Int):Bool:=decide (dkA N (dkQ f E)%dkZ D (dkQ f E)=0)
def dkC (f:DF)(d:Int)(s:Bool)(N D:Nat)(E:Int):Nat:=if 10^(3*f.j+1)<=dkC0 f d s N D E then 10^(3*f.j) else dkC0 f d s N D E
def dkE (f:DF)(d:Int)(s:Bool)(N D:Nat)(E:Int):Int:=if 10^(3*f.j+1)<=dkC0 f d s N D E then dkQ f E+1 else dkQ f E
def DF.m (f:DF):Int:=f.l+3*2^f.w-1
def mbr (m want:Int):Nat->Nat->Int->Nat×Int
 | 0,c,q=>(c,q)
 | k+1,c,q=>if q<want/\q<m/\c%10=0 then mbr m want k (c/10) (q+1) else (c,q)
def dkM (f:DF)(d:Int)(s:Bool)(N D:Nat)(E want:Int):Nat×Int:=mbr f.m want (f.m-dkE f d s N D E).toNat (dkC f d s N D E) (dkE f d s N D E)
def dkD (f:DF)(d:Int)(s:Bool)(N D:Nat)(E want:Int):Dat :=
 if f.m<dkE f d s N D E then (if inB d s then ⟨2,s,false,0,0⟩ else ⟨1,s,false,f.m,10^(3*f.j+1)-1⟩)
 else if dkX f N D E then ⟨1,s,false,(dkM f d s N D E want).2,(dkM f d s N D E want).1⟩ else ⟨1,s,false,dkE f d s N D E,dkC f d s N D E⟩
def dkF (f:DF)(d:Int)(s:Bool)(N D:Nat)(E:Int):Int :=
 if f.m<dkE f d s N D E then 10 else if dkX f N D E then 0 else if E<f.l+3*f.j then 12 else 8
theorem dkC_lt {f:DF}{d:Int}{s:Bool}{N D:Nat}{E:Int}(hD:0<D)(h:TnE N D E):dkC f d s N D E<10^(3*f.j+1):=by
 have h1:=dkC0_le (f:=f) (d:=d) (s:=s) hD h
 have h2:(10:Nat)^(3*f.j)<10^(3*f.j+1):=Nat.pow_lt_pow_right (by decide) (by omega)
 unfold dkC
 split<;>omega
theorem dkE_ge (f:DF)(d:Int)(s:Bool)(N D:Nat)(E:Int):f.l<=dkE f d s N D E:=by
 unfold dkE dkQ
 split<;>omega
theorem mbr_all {m want:Int}:∀ (k c:Nat) (q:Int),q<=m->(mbr m want k c q).1<=c/\q<=(mbr m want k c q).2/\(mbr m want k c q).2<=m/\(mbr m want k c q).1*10^((mbr m want k c q).2-q).toNat=c
 | 0,c,q,hq=>by
  unfold mbr
  refine ⟨Nat.le_refl _,Int.le_refl _,hq,?_⟩
  simp
 | k+1,c,q,hq=>by
  unfold mbr
  split
  ·rename_i h
   obtain ⟨h1,h2,h3,h4⟩:=mbr_all (m:=m) (want:=want) k (c/10) (q+1) (by omega)
   refine ⟨by omega,by omega,h3,?_⟩
   rw [show ((mbr m want k (c/10) (q+1)).2-q).toNat=((mbr m want k (c/10) (q+1)).2-(q+1)).toNat+1 by omega,Nat.pow_succ,← Nat.mul_assoc,h4]
   omega
  ·refine ⟨Nat.le_refl _,Int.le_refl _,hq,?_⟩
   simp
theorem dkD_is {f:DF}(hf:f.ok){d:Int}{s:Bool}{N D:Nat}{E want:Int}(hD:0<D)(h:TnE N D E):vI f (dkD f d s N D E want):=by
 have hc:=dkC_lt (f:=f) (d:=d) (s:=s) hD h
 have he:=dkE_ge f d s N D E
 have hp:=ten_pos (3*f.j+1)
 have hw:(0:Int)<2^f.w:=Int.pow_pos (by decide)
 unfold dkD
 split
 ·split
  ·exact Or.inr (Or.inl ⟨rfl,rfl,rfl,rfl⟩)
  ·refine Or.inl ⟨rfl,rfl,?_,?_,?_⟩
   ·show 10^(3*f.j+1)-1<10^(3*f.j+1)
    omega
   ·show f.l<=f.m
    unfold DF.m;omega
   ·show f.m<=f.l+3*2^f.w-1
    exact Int.le_refl _
 ·rename_i hm
  split
  ·obtain ⟨h1,h2,h3,h4⟩:=mbr_all (m:=f.m) (want:=want) (f.m-dkE f d s N D E).toNat (dkC f d s N D E) (dkE f d s N D E) (by omega)
   refine Or.inl ⟨rfl,rfl,?_,?_,?_⟩
   ·show (dkM f d s N D E want).1<10^(3*f.j+1)
    unfold dkM;omega
   ·show f.l<=(dkM f d s N D E want).2
    unfold dkM;omega
   ·show (dkM f d s N D E want).2<=f.l+3*2^f.w-1
    unfold dkM;exact h3
  ·exact Or.inl ⟨rfl,rfl,hc,he,by show dkE f d s N D E<=f.m;omega⟩
section
attribute [local irreducible] W4
section
variable (n:Int)(nm:ByteArray)(wd pr ex le mo pa:Int)(dn:Bool)(c x:Int)(s g:Bool)(k:Nat)(w:World)
end
instance (f:DF) (d:Dat):Decidable (vI f d):=inferInstanceAs (Decidable (_∨_))
end
section
attribute [local irreducible] W4 NT
structure B4 (g X:Nat) (w:World):Prop where
 lt:g<w.heap.size
 c0:w.cell? ⟨g,0,none⟩=some (.int .u64 (W4 X 0))
 c1:w.cell? ⟨g,1,none⟩=some (.int .u64 (W4 X 1))
 c2:w.cell? ⟨g,2,none⟩=some (.int .u64 (W4 X 2))
 c3:w.cell? ⟨g,3,none⟩=some (.int .u64 (W4 X 3))
 f0:w.frozen? ⟨g,0,none⟩=false
 f1:w.frozen? ⟨g,1,none⟩=false
 f2:w.frozen? ⟨g,2,none⟩=false
 f3:w.frozen? ⟨g,3,none⟩=false
theorem B4.next {g X:Nat}{w w':World}(h:B4 g X w)(hb:Below w.heap.size w w'):B4 g X w' :=
 ⟨Nat.lt_of_lt_of_le h.lt hb.size,(hb.cell (p:=⟨g,0,none⟩) h.lt).trans h.c0,(hb.cell (p:=⟨g,1,none⟩) h.lt).trans h.c1,(hb.cell (p:=⟨g,2,none⟩) h.lt).trans h.c2,(hb.cell (p:=⟨g,3,none⟩) h.lt).trans h.c3,
  (hb.frozen (p:=⟨g,0,none⟩) h.lt).trans h.f0,(hb.frozen (p:=⟨g,1,none⟩) h.lt).trans h.f1,(hb.frozen (p:=⟨g,2,none⟩) h.lt).trans h.f2,(hb.frozen (p:=⟨g,3,none⟩) h.lt).trans h.f3⟩
theorem B4.new (w:World)(t:TypeId):B4 w.heap.size 0 (w.alloc (.cells #[.int .u64 0,.int .u64 0,.int .u64 0,.int .u64 0] t)):=by
 refine ⟨by simp,?_,?_,?_,?_,?_,?_,?_,?_⟩<;>first|(rw [W4_zero];go_simp)|go_simp
abbrev put4B (w:World)(g X:Nat):World:=(((w.setCell ⟨g,0,none⟩ (.int .u64 (W4 X 0))).setCell ⟨g,1,none⟩ (.int .u64 (W4 X 1))).setCell ⟨g,2,none⟩ (.int .u64 (W4 X 2))).setCell ⟨g,3,none⟩ (.int .u64 (W4 X 3))
theorem B4.put {g X Y:Nat}{w:World}(h:B4 g X w):B4 g Y (put4B w g Y):=by
 have hsm:=cell_set_map
 obtain ⟨h0,h1,h2,h3,h4,h5,h6,h7,h8⟩:=h
 refine ⟨by simp;exact h0,?_,?_,?_,?_,?_,?_,?_,?_⟩<;>go_simp
theorem B4.other {g h X Y:Nat}{w:World}(hB:B4 g X w)(hne:g≠h):B4 g X (put4B w h Y):=by
 obtain ⟨h0,h1,h2,h3,h4,h5,h6,h7,h8⟩:=hB
 refine ⟨by simp;exact h0,?_,?_,?_,?_,?_,?_,?_,?_⟩<;>go_simp
section
variable {P:Program}{a:Act}{w:World}{K:Act->World->Prop}{Q:Exit->Act->World->Prop}{d p q:Nat}{ty:TypeId}{pos:String}{after:Array Edge}{gd:Option (Nat×Bool)}
end
end
end Go.Proofs.YtahfkpjhlbiamaaGreatDoor
