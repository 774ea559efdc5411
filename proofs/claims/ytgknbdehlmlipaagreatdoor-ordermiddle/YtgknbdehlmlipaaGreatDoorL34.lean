/-
  Texts that the proof leans on.
-/
import Derived.Test.YtgknbdehlmlipaaGreatDoorL29
import Derived.Test.YtgknbdehlmlipaaGreatDoorL30
import Derived.Test.YtgknbdehlmlipaaGreatDoorL18
import Derived.Test.YtgknbdehlmlipaaGreatDoorL2
set_option linter.unusedVariables false
set_option linter.unusedSectionVars false
set_option linter.unusedSimpArgs false
set_option maxRecDepth 20000
namespace Go.Proofs.YtgknbdehlmlipaaGreatDoor
open Go.RowKit
section
attribute [local irreducible] W4 NT
structure B4 (g X:Nat) (w:World):Prop where
 lt:g<w.heap.size
 c0:w.cell? ⟨g,0,none⟩=some (.int .u64 (W4 X 0))
 c1:w.cell? ⟨g,1,none⟩=some (.int .u64 (W4 X 1))
 c2:w.cell? ⟨g,2,none⟩=some (.int .u64 (W4 X 2))
 c3:w.cell? ⟨g,3,none⟩=some (.int .u64 (W4 X 3))
 f0:w.frozen? ⟨g,0,none⟩=false
 f1:w.frozen? ⟨g,1,none⟩=false
 f2:w.frozen? ⟨g,2,none⟩=false
 f3:w.frozen? ⟨g,3,none⟩=false
theorem B4.next {g X:Nat}{w w':World}(h:B4 g X w)(hb:Below w.heap.size w w'):B4 g X w' :=
 ⟨Nat.lt_of_lt_of_le h.lt hb.size,(hb.cell (p:=⟨g,0,none⟩) h.lt).trans h.c0,(hb.cell (p:=⟨g,1,none⟩) h.lt).trans h.c1,(hb.cell (p:=⟨g,2,none⟩) h.lt).trans h.c2,(hb.cell (p:=⟨g,3,none⟩) h.lt).trans h.c3,
  (hb.frozen (p:=⟨g,0,none⟩) h.lt).trans h.f0,(hb.frozen (p:=⟨g,1,none⟩) h.lt).trans h.f1,(hb.frozen (p:=⟨g,2,none⟩) h.lt).trans h.f2,(hb.frozen (p:=⟨g,3,none⟩) h.lt).trans h.f3⟩
theorem B4.new (w:World)(t:TypeId):B4 w.heap.size 0 (w.alloc (.cells #[.int .u64 0,.int .u64 0,.int .u64 0,.int .u64 0] t)):=by
 refine ⟨by simp,?_,?_,?_,?_,?_,?_,?_,?_⟩<;>first|(rw [W4_zero];go_simp)|go_simp
abbrev put4B (w:World)(g X:Nat):World:=(((w.setCell ⟨g,0,none⟩ (.int .u64 (W4 X 0))).setCell ⟨g,1,none⟩ (.int .u64 (W4 X 1))).setCell ⟨g,2,none⟩ (.int .u64 (W4 X 2))).setCell ⟨g,3,none⟩ (.int .u64 (W4 X 3))
theorem B4.put {g X Y:Nat}{w:World}(h:B4 g X w):B4 g Y (put4B w g Y):=by
 have hsm:=cell_set_map
 obtain ⟨h0,h1,h2,h3,h4,h5,h6,h7,h8⟩:=h
 refine ⟨by simp;exact h0,?_,?_,?_,?_,?_,?_,?_,?_⟩<;>go_simp
theorem B4.other {g h X Y:Nat}{w:World}(hB:B4 g X w)(hne:g≠h):B4 g X (put4B w h Y):=by
 obtain ⟨h0,h1,h2,h3,h4,h5,h6,h7,h8⟩:=hB
 refine ⟨by simp;exact h0,?_,?_,?_,?_,?_,?_,?_,?_⟩<;>go_simp
theorem put4B_below {B0 g X:Nat}{w0 w:World}(hb:Below B0 w0 w)(hg:B0<=g):Below B0 w0 (put4B w g X):=bgo
section
variable {P:Program}{a:Act}{w:World}{K:Act->World->Prop}{Q:Exit->Act->World->Prop}{d p q:Nat}{ty:TypeId}{pos:String}{after:Array Edge}{gd:Option (Nat×Bool)}
theorem og_alB (hK:K (a.put (some d) (.pointer (some ⟨w.heap.size,0,none⟩))) (w.alloc (.cells #[.int .u64 0,.int .u64 0,.int .u64 0,.int .u64 0] 24))):Oper.wp Tryz.prog { dst:=some d,op:=Op.alloc 24,type:=ty,pos:=pos,after:=after,guard:=gd } a w K Q:=by
 simp [go_sem]
 exact hK
theorem og_stB {g X Y:Nat}(h1:slot a p=.pointer (some ⟨g,0,none⟩))(h2:slot a q=A4 Y)(hB:B4 g X w)(hK:K a (put4B w g Y)):Oper.wp Tryz.prog { dst:=none,op:=Op.store 24 (Operand.tmp p) (Operand.tmp q),type:=ty,pos:=pos,after:=after,guard:=gd } a w K Q:=by
 obtain ⟨h3,c0,c1,c2,c3,f0,f1,f2,f3⟩:=hB
 unfold slot at h1 h2
 unfold A4 at h2
 have hsm:=cell_set_map
 simp [go_sem,h1,h2,c0,c1,c2,c3,f0,f1,f2,f3]
 exact hK
end
def M18 (ws:World)(X4:Nat)(L:Nat->Prop)(f:Nat->Value)(w:World):Prop :=
 Below ws.heap.size ws w/\(L 4->∃ g X,f 17=.pointer (some ⟨g,0,none⟩)/\ws.heap.size<=g/\B4 g X w/\(L 6->X=X4))/\(L 5->∃ h,f 18=.pointer (some ⟨h,0,none⟩)/\ws.heap.size<=h/\B4 h 0 w)/\(L 4->L 5->f 17≠f 18)
theorem M18.step {ws w:World}{X4 k t:Nat}{L:Nat->Prop}{f:Nat->Value}{v:Value}(h:M18 ws X4 L f w)(h1:t≠17)(h2:t≠18)(h3:k≠4)(h4:k≠5)(h5:k≠6):M18 ws X4 (fun j=>L j∨j=k) (fun u=>if some t=some u then v else f u) w:=by
 obtain ⟨a1,a2,a3,a4⟩:=h
 have e17:(if some t=some 17 then v else f 17)=f 17:=if_neg (fun e=>h1 (Option.some.inj e))
 have e18:(if some t=some 18 then v else f 18)=f 18:=if_neg (fun e=>h2 (Option.some.inj e))
 have l4:∀ {p:Prop},(p∨4=k)->p:=fun h=>h.resolve_right (fun e=>h3 e.symm)
 have l5:∀ {p:Prop},(p∨5=k)->p:=fun h=>h.resolve_right (fun e=>h4 e.symm)
 have l6:∀ {p:Prop},(p∨6=k)->p:=fun h=>h.resolve_right (fun e=>h5 e.symm)
 refine ⟨a1,fun h=>?_,fun h=>?_,fun h h'=>?_⟩
 ·obtain ⟨g,X,b1,b2,b3,b4⟩:=a2 (l4 h)
  exact ⟨g,X,e17.trans b1,b2,b3,fun h=>b4 (l6 h)⟩
 ·obtain ⟨g,b1,b2,b3⟩:=a3 (l5 h)
  exact ⟨g,e18.trans b1,b2,b3⟩
 ·show (if some t=some 17 then v else f 17)≠(if some t=some 18 then v else f 18)
  rw [e17,e18]
  exact a4 (l4 h) (l5 h')
theorem ptr_ne {g h:Nat}(hne:g≠h):Value.pointer (some ⟨g,0,none⟩)≠Value.pointer (some ⟨h,0,none⟩):=by
 intro e
 injection e with e
 injection e with e
 injection e with e
 exact hne e
end
end Go.Proofs.YtgknbdehlmlipaaGreatDoor
