/-
  Texts that the proof leans on.
-/
import Derived.Test.YtgknbdehlmlipaaGreatDoorJ25
import Derived.Test.YtgknbdehlmlipaaGreatDoorJ24
import Derived.Test.YtgknbdehlmlipaaGreatDoorJ20
import Derived.Test.YtgknbdehlmlipaaGreatDoorJ21
import Derived.Test.YtgknbdehlmlipaaGreatDoorJ9
import Derived.Test.YtgknbdehlmlipaaGreatDoorJ2
import Derived.Test.YtgknbdehlmlipaaGreatDoorJ27
import Derived.Test.YtgknbdehlmlipaaGreatDoorJ28
import Derived.Deep.Cut
import Derived.Deep.CutRange
set_option linter.unusedVariables false
set_option linter.unusedSectionVars false
set_option linter.unusedSimpArgs false
set_option maxRecDepth 20000
namespace Go.Proofs.YtgknbdehlmlipaaGreatDoor
open Go.RowKit
section
section
variable {a:Act}{w:World}{K:Act->World->Prop}{Q:Exit->Act->World->Prop}{d p:Nat}{ty:TypeId}{pos:String}{after:Array Edge}{gd:Option (Nat×Bool)}
theorem og_c1 {F:Nat}{p0:Nat}{u0:Value}{ts:Array TypeId}(hr:Sem.run Tryz.prog (callFunc F #[u0]) w=.ok (.enter F #[u0]) w)(h0:slot a p0=u0)(hc:Calls Tryz.prog F #[u0] w fun e w'=>∃ v,e=.returned v/\K (a.put (some d) v) w'):Oper.wp Tryz.prog { dst:=some d,op:=Op.call { callee:=Callee.value (Operand.func F),args:=#[Operand.tmp p0],argTypes:=ts },type:=ty,pos:=pos,after:=after,guard:=gd } a w K Q:=by
 unfold slot at h0
 simp [go_sem,h0,hr]
 refine hc.mono ?_
 rintro e w' ⟨v,rfl,hK⟩
 exact hK
theorem og_c2 {F:Nat}{p0 p1:Nat}{u0 u1:Value}{ts:Array TypeId}(hr:Sem.run Tryz.prog (callFunc F #[u0,u1]) w=.ok (.enter F #[u0,u1]) w)(h0:slot a p0=u0)(h1:slot a p1=u1)(hc:Calls Tryz.prog F #[u0,u1] w fun e w'=>∃ v,e=.returned v/\K (a.put (some d) v) w'):Oper.wp Tryz.prog { dst:=some d,op:=Op.call { callee:=Callee.value (Operand.func F),args:=#[Operand.tmp p0,Operand.tmp p1],argTypes:=ts },type:=ty,pos:=pos,after:=after,guard:=gd } a w K Q:=by
 unfold slot at h0 h1
 simp [go_sem,h0,h1,hr]
 refine hc.mono ?_
 rintro e w' ⟨v,rfl,hK⟩
 exact hK
theorem og_ext {P:Program}{vs:Array Value}{i:Nat}{v:Value}(h1:slot a p=.tuple vs)(h2:vs[i]?=some v)(hK:K (a.put (some d) v) w):Oper.wp P { dst:=some d,op:=Op.extract (Operand.tmp p) i,type:=ty,pos:=pos,after:=after,guard:=gd } a w K Q:=by
 unfold slot at h1
 simp [go_sem,h1,h2]
 exact hK
end
end
theorem und_is {m:Int}{B:Nat}(h:goodN m B):isD (fN m) (leastN m) (mostN m) (unD m B):=by
 obtain ⟨S,E,F,hS,hE,hFr,hBe⟩:=fields_in h.2
 have hu:unD m B=mean (fN m) (eN m) (leastN m) S E F:=by
  unfold unD;rw [if_pos h,hBe,unp_mean _ hS hE hFr]
 rw [hu]
 exact (mean_isD (bin_fm h.1) hS hE hFr).1
/-! the sign -/
/-! the order -/
/-! what Convert answers -/
def cnG (m t d:Int)(B:Nat):Prop:=goodN m B/\binN t/\knB d
instance (m t d:Int) (B:Nat):Decidable (cnG m t d B):=by unfold cnG;infer_instance
end Go.Proofs.YtgknbdehlmlipaaGreatDoor
