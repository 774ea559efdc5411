/-
  Texts that the proof leans on.
-/
import Derived.Test.YtahfkpjhlbiamaaGreatDoorL32
import Derived.Test.YtahfkpjhlbiamaaGreatDoorL1
import Derived.Test.YtahfkpjhlbiamaaGreatDoorL23
import Derived.Test.YtahfkpjhlbiamaaGreatDoorL17
import Derived.Test.YtahfkpjhlbiamaaGreatDoorL15
import Derived.Test.YtahfkpjhlbiamaaGreatDoorL4
import Derived.Test.YtahfkpjhlbiamaaGreatDoorL19
set_option linter.unusedVariables false
set_option linter.unusedSectionVars false
set_option linter.unusedSimpArgs false
set_option maxRecDepth 20000
namespace Go.Proofs.YtahfkpjhlbiamaaGreatDoor
open Go.RowKit
theorem whC_mul (d:Int)(s:Bool)(A B:Nat){k:Nat}(hk:0<k):whC d s (A*k) (B*k)=whC d s A B:=by
 unfold whC
 rw [Nat.mul_div_mul_right _ _ hk,Nat.mul_mod_mul_right,fa_sc _ _ _ _ _ _ hk]
def swD (d:Int):Int:=if d=3∨d=4 then 7-d else d
theorem inB_turn (d:Int)(s:Bool):inB (swD d) (!s)=inB d s:=by
 by_cases h:d=3∨d=4
 ·rcases h with rfl|rfl<;>cases s<;>decide
 ·rw [show swD d=d from if_neg h]
  unfold inB
  rw [if_neg (show ¬ d=3 by omega),if_neg (show ¬ d=4 by omega),if_neg (show ¬ d=3 by omega),if_neg (show ¬ d=4 by omega)]
theorem faB_turn (d:Int)(s o:Bool)(R D:Nat):faB (swD d) (!s) o R D=faB d s o R D:=by
 unfold faB
 rw [inB_turn]
 unfold swD
 by_cases h:d=3∨d=4
 ·rw [if_pos h]
  rw [if_neg (show ¬ 7-d=0 by omega),if_neg (show ¬ 7-d=1 by omega),if_neg (show ¬ d=0 by omega),if_neg (show ¬ d=1 by omega)]
 ·rw [if_neg h]
theorem dkC0_turn (f:DF)(d:Int)(s:Bool)(N D:Nat)(E:Int):dkC0 f (swD d) (!s) N D E=dkC0 f d s N D E:=by
 unfold dkC0 whC
 rw [faB_turn]
theorem dk_turn (f:DF)(d:Int)(s:Bool)(N D:Nat)(E want:Int):dkD f (swD d) (!s) N D E want=⟨(dkD f d s N D E want).c,!s,(dkD f d s N D E want).g,(dkD f d s N D E want).x,(dkD f d s N D E want).k⟩/\dkF f (swD d) (!s) N D E=dkF f d s N D E/\(dkD f d s N D E want).s=s:=by
 unfold dkD dkF dkM dkE dkC
 rw [dkC0_turn,inB_turn]
 refine ⟨?_,rfl,?_⟩
 ·(repeat' split)<;>rfl
 ·(repeat' split)<;>rfl
section
def vPV (n:Int)(d:Dat):Nat:=if decN n/\vI (fD n) d then vP (fD n) d else 0
def vPE (n:Int)(d:Dat):Int:=if decN n then (if vI (fD n) d then 0 else 3) else 1
theorem or_lay (y b r:Nat)(hb:b<2^r)(h:y*2^r+b<18446744073709551616):bits .or .u64 ((y*2^r:Nat):Int) (b:Int)=((y*2^r+b:Nat):Int):=by
 have e:=orW_eq ((y*2^r:Nat):Int) (b:Int) (by omega) (by omega)
 unfold orW at e
 rw [e,Int.toNat_natCast,Int.toNat_natCast,Nat.mul_comm y,← Nat.two_pow_add_eq_or_of_lt hb]
theorem and_lay (y r:Nat)(hr:r<64)(hy:y<18446744073709551616):bits .and .u64 (y:Int) ((2^r:Nat)-1:Int)=((y%2^r:Nat):Int):=by
 have e:=and_mask (y:=(y:Int)) (r:=r) (by omega) hr
 rw [← powCast] at e
 rw [e,Int.natCast_emod]
section
variable (n:Int)(C:Int)(s g:Bool)(x:Int)(k:Nat)(w:World)
end
end
def dkW (f:DF)(v:Dat):Nat:=v.k*10^(v.x-f.l).toNat
theorem dkW_c {f:DF}{d:Int}{s:Bool}{N D:Nat}{E:Int}(hD:0<D)(h:TnE N D E):dkC f d s N D E*10^(dkE f d s N D E-f.l).toNat=dkC0 f d s N D E*10^(dkQ f E-f.l).toNat:=by
 have hl:f.l<=dkQ f E:=by unfold dkQ;omega
 have h0:=dkC0_le (f:=f) (d:=d) (s:=s) hD h
 unfold dkC dkE
 by_cases hc:10^(3*f.j+1)<=dkC0 f d s N D E
 ·rw [if_pos hc,if_pos hc,show dkC0 f d s N D E=10^(3*f.j+1) by omega,show (dkQ f E+1-f.l).toNat=(dkQ f E-f.l).toNat+1 by omega,← Nat.pow_add,← Nat.pow_add]
  congr 1;omega
 ·rw [if_neg hc,if_neg hc]
theorem dkW_d {f:DF}{d:Int}{s:Bool}{N D:Nat}{E want:Int}(hm:¬ f.m<dkE f d s N D E):dkW f (dkD f d s N D E want)=dkC f d s N D E*10^(dkE f d s N D E-f.l).toNat:=by
 unfold dkW dkD
 rw [if_neg hm]
 have hl:=dkE_ge f d s N D E
 cases dkX f N D E
 ·simp only [Bool.false_eq_true,if_false]
 ·simp only [if_true]
  obtain ⟨a1,a2,a3,a4⟩:=mbr_all (m:=f.m) (want:=want) (f.m-dkE f d s N D E).toNat (dkC f d s N D E) (dkE f d s N D E) (by omega)
  unfold dkM
  generalize mbr f.m want (f.m-dkE f d s N D E).toNat (dkC f d s N D E) (dkE f d s N D E)=r at *
  rw [← a4,Nat.mul_assoc,← Nat.pow_add]
  congr 2;omega
end Go.Proofs.YtahfkpjhlbiamaaGreatDoor
