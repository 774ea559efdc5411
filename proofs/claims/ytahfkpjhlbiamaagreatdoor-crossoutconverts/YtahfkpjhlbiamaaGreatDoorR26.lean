/-
  Texts that the proof leans on.
-/
import Derived.Test.YtahfkpjhlbiamaaGreatDoorR14
import Derived.Test.YtahfkpjhlbiamaaGreatDoorR23
import Derived.Test.YtahfkpjhlbiamaaGreatDoorR16
import Derived.Test.YtahfkpjhlbiamaaGreatDoorR12
import Derived.Test.YtahfkpjhlbiamaaGreatDoorR20
import Derived.Test.YtahfkpjhlbiamaaGreatDoorR22
import Derived.Deep.Cut
import Derived.Deep.CutRange
import Derived.Test.YtahfkpjhlbiamaaGreatDoorR1
set_option linter.unusedVariables false
set_option linter.unusedSectionVars false
set_option linter.unusedSimpArgs false
set_option maxRecDepth 20000
namespace Go.Proofs.YtahfkpjhlbiamaaGreatDoor
open Go.RowKit
def tnG (N D:Nat)(e:Int):Prop:=D*10^e.toNat<=N*10^(-e).toNat
instance (N D:Nat) (e:Int):Decidable (tnG N D e):=inferInstanceAs (Decidable (_<=_))
theorem zWa (n:Nat):0<(10:Nat)^n:=Nat.pow_pos (by decide)
theorem zMu (N D p:Nat)(q:Int):tnG N D (q+p)↔D*10^q.toNat*10^p<=N*10^(-q).toNat:=by
 unfold tnG
 by_cases h0:0<=q
 ·rw [show (-(q+(p:Int))).toNat=0 by omega,show (-q).toNat=0 by omega,show (q+(p:Int)).toNat=q.toNat+p by omega,Nat.pow_add,Nat.mul_assoc]
 ·by_cases h1:0<=q+(p:Int)
  ·obtain ⟨a,ha⟩:∃ a:Nat,q=-(a:Int):=⟨(-q).toNat,by omega⟩
   obtain ⟨b,hb⟩:∃ b:Nat,p=a+b:=⟨p-a,by omega⟩
   subst hb
   rw [show (-(q+((a+b:Nat):Int))).toNat=0 by omega,show (-q).toNat=a by omega,show (q+((a+b:Nat):Int)).toNat=b by omega,show q.toNat=0 by omega,Nat.pow_zero,Nat.mul_one,Nat.mul_one,Nat.pow_add,Nat.mul_comm (10^a),← Nat.mul_assoc]
   exact (Nat.mul_le_mul_right_iff (zWa a)).symm
  ·obtain ⟨a,ha⟩:∃ a:Nat,q+(p:Int)=-(a:Int):=⟨(-(q+p)).toNat,by omega⟩
   rw [show (-(q+(p:Int))).toNat=a by omega,show (q+(p:Int)).toNat=0 by omega,show q.toNat=0 by omega,show (-q).toNat=a+p by omega,Nat.pow_zero,Nat.mul_one,Nat.pow_add,← Nat.mul_assoc]
   exact (Nat.mul_le_mul_right_iff (zWa p)).symm
theorem zIk {N D:Nat}{e e':Int}(h:tnG N D e)(he:e'<=e):tnG N D e':=by
 obtain ⟨p,rfl⟩:∃ p:Nat,e=e'+p:=⟨(e-e').toNat,by omega⟩
 have:=(zMu N D p e').1 h
 unfold tnG
 exact Nat.le_trans (Nat.le_mul_of_pos_right _ (zWa p)) this
def TnE (N D:Nat)(E:Int):Prop:=tnG N D E/\¬ tnG N D (E+1)
theorem TnE.only {N D:Nat}{E E':Int}(h:TnE N D E)(h':TnE N D E'):E=E':=by
 rcases Int.lt_trichotomy E E' with q|q|q
 ·exact absurd (zIk h'.1 (by omega)) h.2
 ·exact q
 ·exact absurd (zIk h.1 (by omega)) h'.2
def dkQ (f:DF)(E:Int):Int:=max f.l (E-3*f.j)
def dkA (N:Nat)(q:Int):Nat:=N*10^(-q).toNat
def dkZ (D:Nat)(q:Int):Nat:=D*10^q.toNat
theorem zUx {D:Nat}(h:0<D)(q:Int):0<dkZ D q:=Nat.mul_pos h (zWa _)
theorem dk_lt {f:DF}{N D:Nat}{E:Int}(h:TnE N D E):dkA N (dkQ f E)<dkZ D (dkQ f E)*10^(3*f.j+1):=by
 have hq:E+1<=dkQ f E+((3*f.j+1:Nat):Int):=by unfold dkQ;omega
 have h1:¬ tnG N D (dkQ f E+((3*f.j+1:Nat):Int)):=fun q=>h.2 (zIk q hq)
 rw [zMu] at h1
 unfold dkA dkZ
 omega
def dkC0 (f:DF)(d:Int)(s:Bool)(N D:Nat)(E:Int):Nat:=whC d s (dkA N (dkQ f E)) (dkZ D (dkQ f E))
theorem whC_le {d:Int}{s:Bool}{A B:Nat}:A/B<=whC d s A B/\whC d s A B<=A/B+1:=by
 unfold whC
 split<;>omega
theorem zVx {f:DF}{d:Int}{s:Bool}{N D:Nat}{E:Int}(hD:0<D)(h:TnE N D E):dkC0 f d s N D E<=10^(3*f.j+1):=by
 have h1:=dk_lt (f:=f) h
 have h2:=(whC_le (d:=d) (s:=s) (A:=dkA N (dkQ f E)) (B:=dkZ D (dkQ f E))).2
 have h3:dkA N (dkQ f E)/dkZ D (dkQ f E)<10^(3*f.j+1):=by
  rw [Nat.div_lt_iff_lt_mul (zUx hD _),Nat.mul_comm];exact h1
 unfold dkC0
 omega
def dkX (f:DF)(N D:Nat)(E:Int):Bool:=decide (dkA N (dkQ f E)%dkZ D (dkQ f E)=0)
def dkC (f:DF)(d:Int)(s:Bool)(N D:Nat)(E:Int):Nat:=if 10^(3*f.j+1)<=dkC0 f d s N D E then 10^(3*f.j) else dkC0 f d s N D E
def dkE (f:DF)(d:Int)(s:Bool)(N D:Nat)(E:Int):Int:=if 10^(3*f.j+1)<=dkC0 f d s N D E then dkQ f E+1 else dkQ f E
def DF.m (f:DF):Int:=f.l+3*2^f.w-1
def mbr (m want:Int):Nat->Nat->Int->Nat×Int
 | 0,c,q=>(c,q)
 | k+1,c,q=>if q<want/\q<m/\c%10=0 then mbr m want k (c/10) (q+1) else (c,q)
def dkM (f:DF)(d:Int)(s:Bool)(N D:Nat)(E want:Int):Nat×Int:=mbr f.m want (f.m-dkE f d s N D E).toNat (dkC f d s N D E) (dkE f d s N D E)
def dkD (f:DF)(d:Int)(s:Bool)(N D:Nat)(E want:Int):Dat :=
 if f.m<dkE f d s N D E then (if inB d s then ⟨2,s,false,0,0⟩ else ⟨1,s,false,f.m,10^(3*f.j+1)-1⟩)
 else if dkX f N D E then ⟨1,s,false,(dkM f d s N D E want).2,(dkM f d s N D E want).1⟩ else ⟨1,s,false,dkE f d s N D E,dkC f d s N D E⟩
def dkF (f:DF)(d:Int)(s:Bool)(N D:Nat)(E:Int):Int :=
 if f.m<dkE f d s N D E then 10 else if dkX f N D E then 0 else if E<f.l+3*f.j then 12 else 8
theorem zS4 {f:DF}{d:Int}{s:Bool}{N D:Nat}{E:Int}(hD:0<D)(h:TnE N D E):dkC f d s N D E<10^(3*f.j+1):=by
 have h1:=zVx (f:=f) (d:=d) (s:=s) hD h
 have h2:(10:Nat)^(3*f.j)<10^(3*f.j+1):=Nat.pow_lt_pow_right (by decide) (by omega)
 unfold dkC
 split<;>omega
theorem zR4 (f:DF)(d:Int)(s:Bool)(N D:Nat)(E:Int):f.l<=dkE f d s N D E:=by
 unfold dkE dkQ
 split<;>omega
theorem zWl {m want:Int}:∀ (k c:Nat) (q:Int),q<=m->(mbr m want k c q).1<=c/\q<=(mbr m want k c q).2/\(mbr m want k c q).2<=m/\(mbr m want k c q).1*10^((mbr m want k c q).2-q).toNat=c
 | 0,c,q,hq=>by
  unfold mbr
  refine ⟨Nat.le_refl _,Int.le_refl _,hq,?_⟩
  simp
 | k+1,c,q,hq=>by
  unfold mbr
  split
  ·rename_i h
   obtain ⟨h1,h2,h3,h4⟩:=zWl (m:=m) (want:=want) k (c/10) (q+1) (by omega)
   refine ⟨by omega,by omega,h3,?_⟩
   rw [show ((mbr m want k (c/10) (q+1)).2-q).toNat=((mbr m want k (c/10) (q+1)).2-(q+1)).toNat+1 by omega,Nat.pow_succ,← Nat.mul_assoc,h4]
   omega
  ·refine ⟨Nat.le_refl _,Int.le_refl _,hq,?_⟩
   simp
theorem dkD_is {f:DF}(hf:f.ok){d:Int}{s:Bool}{N D:Nat}{E want:Int}(hD:0<D)(h:TnE N D E):vI f (dkD f d s N D E want):=by
 have hc:=zS4 (f:=f) (d:=d) (s:=s) hD h
 have he:=zR4 f d s N D E
 have hp:=zWa (3*f.j+1)
 have hw:(0:Int)<2^f.w:=Int.pow_pos (by decide)
 unfold dkD
 split
 ·split
  ·exact Or.inr (Or.inl ⟨rfl,rfl,rfl,rfl⟩)
  ·refine Or.inl ⟨rfl,rfl,?_,?_,?_⟩
   ·show 10^(3*f.j+1)-1<10^(3*f.j+1)
    omega
   ·show f.l<=f.m
    unfold DF.m;omega
   ·show f.m<=f.l+3*2^f.w-1
    exact Int.le_refl _
 ·rename_i hm
  split
  ·obtain ⟨h1,h2,h3,h4⟩:=zWl (m:=f.m) (want:=want) (f.m-dkE f d s N D E).toNat (dkC f d s N D E) (dkE f d s N D E) (by omega)
   refine Or.inl ⟨rfl,rfl,?_,?_,?_⟩
   ·show (dkM f d s N D E want).1<10^(3*f.j+1)
    unfold dkM;omega
   ·show f.l<=(dkM f d s N D E want).2
    unfold dkM;omega
   ·show (dkM f d s N D E want).2<=f.l+3*2^f.w-1
    unfold dkM;exact h3
  ·exact Or.inl ⟨rfl,rfl,hc,he,by show dkE f d s N D E<=f.m;omega⟩
theorem zM5 (d:Int)(s:Bool)(A B:Nat){k:Nat}(hk:0<k):whC d s (A*k) (B*k)=whC d s A B:=by
 unfold whC
 rw [Nat.mul_div_mul_right _ _ hk,Nat.mul_mod_mul_right,fa_sc _ _ _ _ _ _ hk]
theorem zS3 {m:Int}{B:Nat}(h:zQd m B):isD (fN m) (zZa m) (zNc m) (unD m B):=by
 obtain ⟨S,E,F,hS,hE,hFr,hBe⟩:=zHx h.2
 have hu:unD m B=zG4 (fN m) (eN m) (zZa m) S E F:=by
  unfold unD;rw [if_pos h,hBe,zC0 _ hS hE hFr]
 rw [hu]
 exact (zW1 (zYr h.1) hS hE hFr).1
/-! the sign -/
/-! the order -/
/-! what Convert answers -/
def cnG (m t d:Int)(B:Nat):Prop:=zQd m B/\zYk t/\knB d
instance (m t d:Int) (B:Nat):Decidable (cnG m t d B):=by unfold cnG;infer_instance
section
attribute [local irreducible] W4 NT NV
theorem DV_nul (c:Int)(s g:Bool)(x:Int):DV c s g x 0=.agg #[.int .i64 c,.bool s,.bool g,.int .i64 x,.int .u64 0,.int .u64 0,.int .u64 0,.int .u64 0]:=by
 unfold DV;simp only [zNa]
section
variable (t:Int)(nm:ByteArray)(wd:Int)(f e:Nat)(l m:Int)(c x:Int)(s g:Bool)(k:Nat)(w:World)
 (c18:∀ W,CB 20 #[.int .i64 t] W (.tuple #[IV t nm wd f e l m,.int .i64 0]))
include c18
end
end
end Go.Proofs.YtahfkpjhlbiamaaGreatDoor
