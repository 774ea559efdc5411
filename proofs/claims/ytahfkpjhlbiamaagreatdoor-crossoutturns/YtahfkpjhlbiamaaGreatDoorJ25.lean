/-
  Texts that the proof leans on.
-/
import Derived.Test.YtahfkpjhlbiamaaGreatDoorJ21
import Derived.Test.YtahfkpjhlbiamaaGreatDoorJ1
set_option linter.unusedVariables false
set_option linter.unusedSectionVars false
set_option linter.unusedSimpArgs false
set_option maxRecDepth 20000
namespace Go.Proofs.YtahfkpjhlbiamaaGreatDoor
open Go.RowKit
theorem zEv (d:Int)(s:Bool){B:Nat}(hB:0<B)(c:Nat):whC d s (B*c) B=c:=by
 unfold whC faB
 rw [Nat.mul_mod_right,if_pos rfl,Nat.mul_div_cancel_left _ hB]
 simp
theorem zDv (d:Int)(s:Bool)(A B:Nat){k:Nat}(hk:0<k):whC d s (A*k) (B*k)=whC d s A B:=by
 unfold whC
 rw [Nat.mul_div_mul_right _ _ hk,Nat.mul_mod_mul_right,fa_sc _ _ _ _ _ _ hk]
theorem zOz (N k:Nat)(q:Int):dkA (N*k) q=dkA N q*k:=by unfold dkA;exact Nat.mul_right_comm _ _ _
theorem zKz (D k:Nat)(q:Int):dkZ (D*k) q=dkZ D q*k:=by unfold dkZ;exact Nat.mul_right_comm _ _ _
theorem zW4 (f:DF)(d:Int)(s:Bool)(N D:Nat)(E:Int){k:Nat}(hk:0<k):dkC0 f d s (N*k) (D*k) E=dkC0 f d s N D E:=by
 unfold dkC0
 rw [zOz,zKz,zDv _ _ _ _ hk]
theorem yKb (f:DF)(N D:Nat)(E:Int){k:Nat}(hk:0<k):dkX f (N*k) (D*k) E=dkX f N D E:=by
 unfold dkX
 rw [zOz,zKz,Nat.mul_mod_mul_right]
 refine decide_eq_decide.2 ?_
 rw [Nat.mul_eq_zero]
 omega
theorem zLz (f:DF)(d:Int)(s:Bool)(N D:Nat)(E want:Int){k:Nat}(hk:0<k):dkD f d s (N*k) (D*k) E want=dkD f d s N D E want/\dkF f d s (N*k) (D*k) E=dkF f d s N D E:=by
 unfold dkD dkF dkM dkE dkC
 rw [zW4 f d s N D E hk,yKb f N D E hk]
 exact ⟨rfl,rfl⟩
theorem zW0 {N D k:Nat}(hk:0<k)(E:Int):TnE (N*k) (D*k) E↔TnE N D E:=by
 unfold TnE
 rw [zXv hk,zXv hk]
def swD (d:Int):Int:=if d=3∨d=4 then 7-d else d
theorem zIs (d:Int)(s:Bool):inB (swD d) (!s)=inB d s:=by
 by_cases h:d=3∨d=4
 ·rcases h with rfl|rfl<;>cases s<;>decide
 ·rw [show swD d=d from if_neg h]
  unfold inB
  rw [if_neg (show ¬ d=3 by omega),if_neg (show ¬ d=4 by omega),if_neg (show ¬ d=3 by omega),if_neg (show ¬ d=4 by omega)]
theorem zO4 (d:Int)(s o:Bool)(R D:Nat):faB (swD d) (!s) o R D=faB d s o R D:=by
 unfold faB
 rw [zIs]
 unfold swD
 by_cases h:d=3∨d=4
 ·rw [if_pos h]
  rw [if_neg (show ¬ 7-d=0 by omega),if_neg (show ¬ 7-d=1 by omega),if_neg (show ¬ d=0 by omega),if_neg (show ¬ d=1 by omega)]
 ·rw [if_neg h]
theorem zMz (f:DF)(d:Int)(s:Bool)(N D:Nat)(E:Int):dkC0 f (swD d) (!s) N D E=dkC0 f d s N D E:=by
 unfold dkC0 whC
 rw [zO4]
theorem yJb (f:DF)(d:Int)(s:Bool)(N D:Nat)(E want:Int):dkD f (swD d) (!s) N D E want=⟨(dkD f d s N D E want).c,!s,(dkD f d s N D E want).g,(dkD f d s N D E want).x,(dkD f d s N D E want).k⟩/\dkF f (swD d) (!s) N D E=dkF f d s N D E/\(dkD f d s N D E want).s=s:=by
 unfold dkD dkF dkM dkE dkC
 rw [zMz,zIs]
 refine ⟨?_,rfl,?_⟩
 ·(repeat' split)<;>rfl
 ·(repeat' split)<;>rfl
theorem yLb {f:DF}{d:Int}{s:Bool}{N D:Nat}{E:Int}(hD:0<D)(h:TnE N D E)(hq:dkQ f E=E-3*f.j):10^(3*f.j)<=dkC0 f d s N D E:=by
 have h1:=h.1
 rw [show E=dkQ f E+((3*f.j:Nat):Int) by rw [hq];omega,zCm] at h1
 refine Nat.le_trans ?_ (zP5 (d:=d) (s:=s)).1
 rw [Nat.le_div_iff_mul_le (zLq hD _),Nat.mul_comm]
 exact h1
section
theorem zV7 {z:Nat->Int}{k V:Nat}(hk:0<k)(hv:val z k=(V:Int)):(V:Int)%2=z 0%2:=by
 have key:∀ j,val z (j+1)%2=z 0%2:=by
  intro j
  induction j with
  | zero=>simp [val]
  | succ j ih =>
   have:val z (j+1+1)=val z (j+1)+z (j+1)*18446744073709551616^(j+1):=rfl
   rw [this,Int.pow_succ,show z (j+1)*(18446744073709551616^j*18446744073709551616)=2*(z (j+1)*18446744073709551616^j*9223372036854775808) by grind,Int.add_mul_emod_self_left]
   exact ih
 obtain ⟨j,rfl⟩:∃ j,k=j+1:=⟨k-1,by omega⟩
 rw [← hv];exact key j
attribute [local irreducible] NV NT
section
variable (d hv:Int)(s odd:Bool)(va vb:Value)(Q:Nat)(w:World)
 (c99:Calls Tryz.prog 92 #[va,vb] w fun e w1=>∃ q g k cap,e=.returned (.tuple #[q,.slice (some ⟨g,0,none⟩) k cap])/\k≠0/\NV 41000 Q q w1/\Below w.heap.size w w1/\Calls Tryz.prog 87 #[.slice (some ⟨g,0,none⟩) k cap,.int .i64 1] w1 fun e w2=>∃ r2,e=.returned r2/\Below w1.heap.size w1 w2/\Calls Tryz.prog 88 #[r2,vb] w2 fun e w3=>e=.returned (.int .i64 hv)/\w2=w3)
 (c100:∀ W q,NV 41000 Q q W->CQ 186 #[q] W (.bool odd))
 (c24:∀ W q v,NV 41000 Q q W->NV 1 1 v W->CE 63 #[q,v] W (NV 41002 (Q+1)))
include c99 c100 c24
end
end
theorem zJz {f:DF}(hf:f.ok)(d:Int)(s:Bool){k:Nat}{x E want:Int}(hk0:0<k)(hk:k<10^(3*f.j+1))(hx0:f.l<=x)(hx1:x<=f.m)(h:TnE (k*10^x.toNat) (10^(-x).toNat) E) :
  ∃ (k':Nat) (x':Int),dkD f d s (k*10^x.toNat) (10^(-x).toNat) E want=⟨1,s,false,x',k'⟩/\dkF f d s (k*10^x.toNat) (10^(-x).toNat) E=0/\f.l<=x'/\x'<=f.m/\k'<10^(3*f.j+1)/\0<k'/\k'*10^(x'-x).toNat=k*10^(x-x').toNat/\(x'<want->x'<f.m->k'%10≠0)/\(want<x'->f.l<x'->10^(3*f.j+1)<=k'*10):=by
 have hE:E<=x+3*f.j:=by
  rcases Int.lt_or_le (x+3*f.j) E with q|q
  ·exfalso
   have h1:=zKn h.1 (show x+((3*f.j+1:Nat):Int)<=E by omega)
   rw [zCm] at h1
   have e:10^(-x).toNat*10^x.toNat*10^(3*f.j+1)=10^(3*f.j+1)*(10^x.toNat*10^(-x).toNat):=by simp only [Nat.mul_comm,Nat.mul_left_comm]
   rw [e,Nat.mul_assoc k] at h1
   have:=(Nat.mul_le_mul_right_iff (Nat.mul_pos (zTa x.toNat) (zTa (-x).toNat))).1 h1
   omega
  ·exact q
 have hq:dkQ f E<=x:=by unfold dkQ;omega
 obtain ⟨p,hp⟩:∃ p:Nat,x=dkQ f E+p:=⟨(x-dkQ f E).toNat,by omega⟩
 have hAZ:dkA (k*10^x.toNat) (dkQ f E)=dkZ (10^(-x).toNat) (dkQ f E)*(k*10^p):=by
  unfold dkA dkZ
  generalize dkQ f E=q at *
  rw [← Nat.pow_add,Nat.mul_assoc,← Nat.pow_add,Nat.mul_left_comm,← Nat.pow_add]
  congr 2
  omega
 have hZ:=zLq (zTa (-x).toNat) (dkQ f E)
 have hC0:dkC0 f d s (k*10^x.toNat) (10^(-x).toNat) E=k*10^p:=by
  unfold dkC0
  rw [hAZ,zEv d s hZ]
 have hX:dkX f (k*10^x.toNat) (10^(-x).toNat) E=true:=by
  unfold dkX
  rw [hAZ,Nat.mul_mod_right];rfl
 have hlt:k*10^p<10^(3*f.j+1):=by
  have h1:=dk_lt (f:=f) h
  rw [hAZ] at h1
  exact Nat.lt_of_mul_lt_mul_left h1
 have hEe:dkE f d s (k*10^x.toNat) (10^(-x).toNat) E=dkQ f E:=by unfold dkE;rw [hC0,if_neg (by omega)]
 have hCc:dkC f d s (k*10^x.toNat) (10^(-x).toNat) E=k*10^p:=by unfold dkC;rw [hC0,if_neg (by omega)]
 have hm:¬ f.m<dkQ f E:=by omega
 have hge:f.l<dkQ f E->10^(3*f.j)<=k*10^p:=fun hl=>by
  have:=yLb (f:=f) (d:=d) (s:=s) (zTa (-x).toNat) h (by unfold dkQ at hl ⊢;omega)
  rw [hC0] at this
  exact this
 have hl:f.l<=dkQ f E:=by unfold dkQ;omega
 have hD:dkD f d s (k*10^x.toNat) (10^(-x).toNat) E want=⟨1,s,false,(dkM f d s (k*10^x.toNat) (10^(-x).toNat) E want).2,(dkM f d s (k*10^x.toNat) (10^(-x).toNat) E want).1⟩:=by
  unfold dkD;rw [hEe,if_neg hm,hX,if_pos rfl]
 have hF:dkF f d s (k*10^x.toNat) (10^(-x).toNat) E=0:=by unfold dkF;rw [hEe,if_neg hm,hX];rfl
 have hM:dkM f d s (k*10^x.toNat) (10^(-x).toNat) E want=mbr f.m want (f.m-dkQ f E).toNat (k*10^p) (dkQ f E):=by unfold dkM;rw [hEe,hCc]
 rw [hM] at hD
 obtain ⟨a1,a2,a3,a4⟩:=zVj (m:=f.m) (want:=want) (f.m-dkQ f E).toNat (k*10^p) (dkQ f E) (by omega)
 have a5:=zZx (m:=f.m) (want:=want) (f.m-dkQ f E).toNat (k*10^p) (dkQ f E) (by omega)
 have a6:=zCs (m:=f.m) (want:=want) (f.m-dkQ f E).toNat (k*10^p) (dkQ f E)
 clear hM hEe hCc hX hC0 hAZ hZ h
 generalize dkQ f E=q at *
 generalize mbr f.m want (f.m-q).toNat (k*10^p) q=r at *
 obtain ⟨k',x'⟩:=r
 simp only at a1 a2 a3 a4 a5 a6 hD
 have hkp:0<k*10^p:=Nat.mul_pos hk0 (zTa p)
 refine ⟨k',x',hD,hF,by omega,a3,by omega,?_,?_,a5,?_⟩
 ·rcases Nat.eq_zero_or_pos k' with e|e
  ·rw [e,Nat.zero_mul] at a4;omega
  ·exact e
 ·obtain ⟨a,ha⟩:∃ a:Nat,x'=q+a:=⟨(x'-q).toNat,by omega⟩
  rw [show (x'-q).toNat=a by omega] at a4
  rcases Nat.le_total p a with hpa|hpa
  ·obtain ⟨b,rfl⟩:∃ b,a=p+b:=⟨a-p,by omega⟩
   rw [show (x'-x).toNat=b by omega,show (x-x').toNat=0 by omega,Nat.pow_zero,Nat.mul_one]
   rw [Nat.pow_add,Nat.mul_left_comm,Nat.mul_comm] at a4
   exact Nat.eq_of_mul_eq_mul_right (zTa p) a4
  ·obtain ⟨b,rfl⟩:∃ b,p=a+b:=⟨p-a,by omega⟩
   rw [show (x'-x).toNat=0 by omega,show (x-x').toNat=b by omega,Nat.pow_zero,Nat.mul_one]
   rw [Nat.pow_add,Nat.mul_left_comm,Nat.mul_comm] at a4
   exact Nat.eq_of_mul_eq_mul_left (zTa a) a4
 ·intro h1 h2
  rcases a6 with e|e
  ·subst e
   rw [Int.sub_self,Int.toNat_zero,Nat.pow_zero,Nat.mul_one] at a4
   have:=hge h2
   rw [a4,Nat.pow_succ]
   exact Nat.mul_le_mul_right _ this
  ·omega
end Go.Proofs.YtahfkpjhlbiamaaGreatDoor
