/-
  Texts that the proof leans on.
-/
import Derived.Test.YtahfkpjhlbiamaaGreatDoorL1
import Derived.Test.YtahfkpjhlbiamaaGreatDoorL32
set_option linter.unusedVariables false
set_option linter.unusedSectionVars false
set_option linter.unusedSimpArgs false
set_option maxRecDepth 20000
namespace Go.Proofs.YtahfkpjhlbiamaaGreatDoor
open Go.RowKit
section
theorem val_odd {z:Nat->Int}{k V:Nat}(hk:0<k)(hv:val z k=(V:Int)):(V:Int)%2=z 0%2:=by
 have key:∀ j,val z (j+1)%2=z 0%2:=by
  intro j
  induction j with
  | zero=>simp [val]
  | succ j ih =>
   have:val z (j+1+1)=val z (j+1)+z (j+1)*18446744073709551616^(j+1):=rfl
   rw [this,Int.pow_succ,show z (j+1)*(18446744073709551616^j*18446744073709551616)=2*(z (j+1)*18446744073709551616^j*9223372036854775808) by grind,Int.add_mul_emod_self_left]
   exact ih
 obtain ⟨j,rfl⟩:∃ j,k=j+1:=⟨k-1,by omega⟩
 rw [← hv];exact key j
attribute [local irreducible] NV NT
section
variable (d hv:Int)(s odd:Bool)(va vb:Value)(Q:Nat)(w:World)
 (c99:Calls Tryz.prog 92 #[va,vb] w fun e w1=>∃ q g k cap,e=.returned (.tuple #[q,.slice (some ⟨g,0,none⟩) k cap])/\k≠0/\NV 41000 Q q w1/\Below w.heap.size w w1/\Calls Tryz.prog 87 #[.slice (some ⟨g,0,none⟩) k cap,.int .i64 1] w1 fun e w2=>∃ r2,e=.returned r2/\Below w1.heap.size w1 w2/\Calls Tryz.prog 88 #[r2,vb] w2 fun e w3=>e=.returned (.int .i64 hv)/\w2=w3)
 (c100:∀ W q,NV 41000 Q q W->CQ 186 #[q] W (.bool odd))
 (c24:∀ W q v,NV 41000 Q q W->NV 1 1 v W->CE 63 #[q,v] W (NV 41002 (Q+1)))
include c99 c100 c24
end
end
end Go.Proofs.YtahfkpjhlbiamaaGreatDoor
