/-
  Texts that the proof leans on.
-/
import Derived.Test.YtpabnhlfbjkmaaaGreatDoorR1
import Derived.Test.YtpabnhlfbjkmaaaGreatDoorR30
import Derived.Test.YtpabnhlfbjkmaaaGreatDoorR21
import Derived.Test.YtpabnhlfbjkmaaaGreatDoorR10
import Derived.Test.YtpabnhlfbjkmaaaGreatDoorR8
set_option linter.unusedVariables false
set_option linter.unusedSectionVars false
set_option linter.unusedSimpArgs false
set_option maxRecDepth 20000
namespace Go.Proofs.YtpabnhlfbjkmaaaGreatDoor
open Go.RowKit
section
def NN (K X:Nat)(v:Value)(w:World):Prop:=(v=.slice none 0 0/\X=0)∨NT K X v w
theorem NN.next {K X:Nat}{v:Value}{w w':World}(h:NN K X v w)(hb:Below w.heap.size w w'):NN K X v w':=by
 rcases h with h|h
 ·exact Or.inl h
 ·exact Or.inr (h.next hb)
attribute [local irreducible] W4 NT NV NN
section
variable (B c:Nat)(w:World)(L:Int)(hc:c<=11)
 (c26:∀ W,NV 4 B (.slice (some ⟨w.heap.size,0,none⟩) 4 4) W->CQ 91 #[.slice (some ⟨w.heap.size,0,none⟩) 4 4] W (.int .i64 L)) (hB:B<2^256)
include hc c26 hB
variable (U X D:Nat->Nat)
 (c27:Hid (∀ i,i<c->∀ W,CE 59 #[A4 B,.int .i64 (10*((c:Int)-1-(i:Int))),.int .i64 10] W (NT 19 (X i))))
 (c24:Hid (∀ i W v,NT 19 (X i) v W->CQ 57 #[v] W (.int .i64 (X i:Int))))
 (c12:Hid (∀ i W,CB 136 #[.int .i64 (X i:Int)] W (.tuple #[.int .i64 (D i:Int),.int .i64 0])))
 (hD:Hid (∀ i,D i<1000))
 (c29:Hid (∀ i,i<c->∀ W v g,NN (4*i) (U i) v W->NT 1 1000 (.slice (some ⟨g,0,none⟩) 1 1) W->CE 24 #[v,.slice (some ⟨g,0,none⟩) 1 1] W (NT (4*i+2) (U i*1000))))
 (c28:Hid (∀ i,i<c->∀ W v v',NT (4*i+2) (U i*1000) v W->NV 1 (D i) v' W->Calls Tryz.prog 48 #[v,v'] W fun r w'=>∃ v,r=.returned v/\NN (4*(i+1)) (U (i+1)) v w'/\Below W.heap.size W w'))
 (c30:Hid (∀ W v,NN (4*c) (U c) v W->CB 22 #[v] W (A4 (U c))))
 (hU:NN (4*0) (U 0) (.slice none 0 0) w)
include c27 c24 c12 hD c29 c28 c30 hU
end
end
end Go.Proofs.YtpabnhlfbjkmaaaGreatDoor
