/-
  Texts that the proof leans on.
-/
import Derived.Test.YtgknbdehlmlipaaGreatDoorJ2
import Derived.Test.YtgknbdehlmlipaaGreatDoorJ21
import Derived.Test.YtgknbdehlmlipaaGreatDoorJ16
set_option linter.unusedVariables false
set_option linter.unusedSectionVars false
set_option linter.unusedSimpArgs false
set_option maxRecDepth 20000
namespace Go.Proofs.YtgknbdehlmlipaaGreatDoor
open Go.RowKit
section
attribute [local irreducible] W4
abbrev IV (n:Int)(nm:ByteArray)(wd:Int)(f e:Nat)(l m:Int):Value:=.agg #[.int .i64 n,.string nm,.int .i64 2,.int .i64 wd,.int .i64 ((f:Int)+1),.int .i64 e,.int .i64 l,.int .i64 m,.int .i64 ((f:Int)-1),.bool false]
section
variable (n:Int)(nm:ByteArray)(wd:Int)(f e:Nat)(l m:Int)(c x:Int)(s g:Bool)(k:Nat)(L:Int)(w:World)(hf:2<=f/\f<=240)
 (c38:∀ W,Num W (some ⟨w.heap.size+1,4,none⟩) 4 4 (lowW (W4 k) 4)->CQ 23 #[.slice (some ⟨w.heap.size+1,4,none⟩) 4 4] W (.int .i64 L))
include hf c38
end
end
end Go.Proofs.YtgknbdehlmlipaaGreatDoor

set_option maxRecDepth 100000
namespace Go.Proofs.YtgknbdehlmlipaaGreatDoor
open Go.ChangeShapes Go.WideShapes Go.ChangeAt Go.RowKit
section
variable {H:Type}{enc:TypeId×Value->H}{W:World}{r:Reach}{base b:Nat}{sp:Nat->Bool}{held:Bool}{t:TypeId}{n:Nat}{v:Value}{d:DataW H}{p:List MemPlace}
theorem open_bits (hok:Value.okWide Tryz.prog W r base 24 v)(h:DataW.Trod enc Tryz.prog W b sp held 24 v d p):∃ A,A<2^256/\v=A4 A/\p=[]:=by
 obtain ⟨x,hx,rfl,hp⟩:=open_words Tryz.underlying24 (by kernel_rfl) hok h
 obtain ⟨A,hA,he,_⟩:=words_A4 hx
 exact ⟨A,hA,he,hp⟩
theorem bits_stay {W':World}{sp':Nat->Bool}(h:DataW.Trod enc Tryz.prog W 0 (fun _=>true) true 24 v d []):DataW.Trod enc Tryz.prog W' 0 sp' true 24 v d [] :=
 WideElems.Trod_stays Tryz.laidOut (by kernel_rfl) (of_decide_eq_true (by kernel_rfl)) h (by simp) (by simp)
end
end Go.Proofs.YtgknbdehlmlipaaGreatDoor
