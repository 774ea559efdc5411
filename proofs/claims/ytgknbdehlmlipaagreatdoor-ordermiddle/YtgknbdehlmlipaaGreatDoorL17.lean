/-
  Texts that the proof leans on.
-/
import Derived.Test.YtgknbdehlmlipaaGreatDoorL13
set_option linter.unusedVariables false
set_option linter.unusedSectionVars false
set_option linter.unusedSimpArgs false
namespace Go.Proofs.YtgknbdehlmlipaaGreatDoor
open Go.RowKit
def dPv (C:Nat)(n:Int):Nat:=if 0<=n/\n<=11 then (if C<1000^n.toNat then dlP n.toNat C else 0) else 0
def dPe (C:Nat)(n:Int):Int:=if 0<=n/\n<=11 then (if C<1000^n.toNat then 0 else 3) else 1
def dUv (B:Nat)(n:Int):Nat:=if 0<=n/\n<=11 then (if B<1024^n.toNat then dlU n.toNat B else 0) else 0
def dUe (B:Nat)(n:Int):Int:=if 0<=n/\n<=11 then (if B<1024^n.toNat then 0 else 3) else 1
theorem dlP_snoc:∀ (c a:Nat),dlP (c+1) a=dlP c a+dlE (a/1000^c%1000)*1024^c
 | 0,a=>by
  show dlE (a%1000)+1024*dlP 0 (a/1000)=dlP 0 a+_
  rw [show dlP 0 (a/1000)=0 from rfl,show dlP 0 a=0 from rfl]
  simp
 | c+1,a=>by
  show dlE (a%1000)+1024*dlP (c+1) (a/1000)=(dlE (a%1000)+1024*dlP c (a/1000))+_
  rw [dlP_snoc c (a/1000),Nat.div_div_eq_div_mul,show 1000*1000^c=1000^(c+1) by rw [Nat.pow_succ,Nat.mul_comm],Nat.pow_succ 1024 c,Nat.mul_add,Nat.mul_comm 1024 (dlE _*_),Nat.mul_assoc,Nat.add_assoc]
theorem dlP_256 (c a:Nat)(hc:c<=11):dlP c a<2^256:=by
 have h:=dlP_lt c a
 have h2:(1024:Nat)^c<=1024^11:=Nat.pow_le_pow_right (by decide) hc
 have h3:(1024:Nat)^11<2^256:=by decide
 omega
theorem dlU_step:∀ (c b:Nat),dlU (c+1) b=dlU c (b/1024)*1000+dlD (b%1024):=fun c b=>by
 show dlD (b%1024)+1000*dlU c (b/1024)=_
 omega
end Go.Proofs.YtgknbdehlmlipaaGreatDoor
