/-
  Texts that the proof leans on.
-/
import Derived.Test.YtahfkpjhlbiamaaGreatDoorJ3
import Derived.Test.YtahfkpjhlbiamaaGreatDoorJ16
set_option linter.unusedVariables false
set_option linter.unusedSectionVars false
set_option linter.unusedSimpArgs false
set_option maxRecDepth 20000
namespace Go.Proofs.YtahfkpjhlbiamaaGreatDoor
open Go.RowKit
section
def zQo (n:Nat):Code->Option (List Oper)
 | .region i o _=>if i=n then some o.toList else none
 | .seq a b=>match zQo n a with|some l=>some l|none=>zQo n b
 | .cond _ a b=>match zQo n a with|some l=>some l|none=>zQo n b
 | .block _ c=>zQo n c
 | .loop c=>zQo n c
 | _=>none
abbrev iW (v:Value):Value->World->Prop:=fun x _=>x=v
section
variable {P:Program}{a:Act}{w:World}{K:Act->World->Prop}{Q:Exit->Act->World->Prop}{d p q:Nat}{ty:TypeId}{pos:String}{after:Array Edge}{gd:Option (Nat×Bool)}
theorem zB3 {v:Value}(h1:slot a p=v)(hK:K (a.put (some d) v) w):Oper.wp P { dst:=some d,op:=Op.move (Operand.tmp p),type:=ty,pos:=pos,after:=after,guard:=gd } a w K Q:=by
 unfold slot at h1
 simp [go_sem,h1]
 exact hK
theorem og_as {v:Value}(h1:slot a p=v)(hK:K (a.put (some d) v) w):Oper.wp P { dst:=some d,op:=Op.assign (Operand.tmp p),type:=ty,pos:=pos,after:=after,guard:=gd } a w K Q:=by
 unfold slot at h1
 simp [go_sem,h1]
 exact hK
theorem zBo {g i:Nat}{v:Value}(h1:slot a p=.pointer (some ⟨g,i,none⟩))(h2:w.cell? ⟨g,i,none⟩=some v)(hK:K (a.put (some d) v) w):Oper.wp Tryz.prog { dst:=some d,op:=Op.load 3 (Operand.tmp p),type:=ty,pos:=pos,after:=after,guard:=gd } a w K Q:=by
 unfold slot at h1
 simp [go_sem,h1,h2]
 exact hK
theorem og_pow {p1:Nat}{u0 u1:Value}{ts:Array TypeId}(h1:slot a p1=u1)(hc:Calls Tryz.prog 64 #[u0,u1] w fun e w'=>∃ v,e=.returned v/\K (a.put (some d) v) w'):Oper.wp Tryz.prog { dst:=some d,op:=Op.call { callee:=Callee.value (Operand.func 64),args:=#[Operand.const u0,Operand.tmp p1],argTypes:=ts },type:=ty,pos:=pos,after:=after,guard:=gd } a w K Q:=by
 unfold slot at h1
 simp [go_sem,h1]
 refine hc.mono ?_
 rintro e w' ⟨v,rfl,hK⟩
 exact hK
theorem og_slB {g:Nat}(h1:slot a p=.pointer (some ⟨g,0,none⟩))(hK:K (a.put (some d) (.slice (some ⟨g,0,none⟩) 4 4)) w):Oper.wp Tryz.prog { dst:=some d,op:=Op.slice 24 (Operand.tmp p) none none none,type:=ty,pos:=pos,after:=after,guard:=gd } a w K Q:=by
 unfold slot at h1
 simp [go_sem,h1]
 exact hK
end
end
section
section
variable {a:Act}{w:World}{K:Act->World->Prop}{Q:Exit->Act->World->Prop}{d p:Nat}{ty:TypeId}{pos:String}{after:Array Edge}{gd:Option (Nat×Bool)}
theorem og_c1 {F:Nat}{p0:Nat}{u0:Value}{ts:Array TypeId}(hr:Sem.run Tryz.prog (callFunc F #[u0]) w=.ok (.enter F #[u0]) w)(h0:slot a p0=u0)(hc:Calls Tryz.prog F #[u0] w fun e w'=>∃ v,e=.returned v/\K (a.put (some d) v) w'):Oper.wp Tryz.prog { dst:=some d,op:=Op.call { callee:=Callee.value (Operand.func F),args:=#[Operand.tmp p0],argTypes:=ts },type:=ty,pos:=pos,after:=after,guard:=gd } a w K Q:=by
 unfold slot at h0
 simp [go_sem,h0,hr]
 refine hc.mono ?_
 rintro e w' ⟨v,rfl,hK⟩
 exact hK
theorem og_c2 {F:Nat}{p0 p1:Nat}{u0 u1:Value}{ts:Array TypeId}(hr:Sem.run Tryz.prog (callFunc F #[u0,u1]) w=.ok (.enter F #[u0,u1]) w)(h0:slot a p0=u0)(h1:slot a p1=u1)(hc:Calls Tryz.prog F #[u0,u1] w fun e w'=>∃ v,e=.returned v/\K (a.put (some d) v) w'):Oper.wp Tryz.prog { dst:=some d,op:=Op.call { callee:=Callee.value (Operand.func F),args:=#[Operand.tmp p0,Operand.tmp p1],argTypes:=ts },type:=ty,pos:=pos,after:=after,guard:=gd } a w K Q:=by
 unfold slot at h0 h1
 simp [go_sem,h0,h1,hr]
 refine hc.mono ?_
 rintro e w' ⟨v,rfl,hK⟩
 exact hK
end
end
end Go.Proofs.YtahfkpjhlbiamaaGreatDoor
