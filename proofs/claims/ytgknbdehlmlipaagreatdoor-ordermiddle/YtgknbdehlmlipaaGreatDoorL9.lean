/-
  Texts that the proof leans on.
-/
import Derived.Test.YtgknbdehlmlipaaGreatDoorL5
import Derived.Laws.IdiomStrings
import Derived.Test.YtgknbdehlmlipaaGreatDoorL1
import Derived.RegionTactic
import Derived.ChangeAlike
import Derived.BigRegion
import Derived.Laws.Strings2
import Derived.Lib.AppendStr
import Derived.Lib.Builder
import Derived.Deep.AppendLies
import Derived.Lib.ItoaLen
set_option linter.unusedVariables false
set_option linter.unusedSimpArgs false
set_option linter.unusedSectionVars false
set_option maxRecDepth 20000
namespace Go.Proofs.YtgknbdehlmlipaaGreatDoor
open Go.RowKit
structure By (g n:Nat) (x:Nat->Int) (W:World):Prop where
 lt:g<W.heap.size
 cell:∀ j,j<n->W.cell? ⟨g,j,none⟩=some (.int .u8 (x j))
 frz:∀ j,j<n->W.frozen? ⟨g,j,none⟩=false
theorem By.set {g n:Nat}{x:Nat->Int}{W:World}(h:By g n x W)(i:Nat)(v:Int):By g n (fun j=>if j=i then v else x j) (W.setCell ⟨g,i,none⟩ (.int .u8 v)):=by
 refine ⟨by simpa using h.lt,fun j hj=>?_,fun j hj=>by rw [World.frozen?_setCell];exact h.frz j hj⟩
 show _=some (Value.int .u8 (if j=i then v else x j))
 by_cases e:j=i
 ·subst e
  rw [if_pos rfl]
  exact World.cell?_setCell_same (h:=h.cell j hj) ..
 ·rw [if_neg e]
  exact (World.cell?_setCell_other (h:=by intro h;cases h;exact e rfl) ..).trans (h.cell j hj)
def PV (c:Int)(s g:Bool)(d:List UInt8)(e:Int):Value:=.agg #[.int .i64 c,.bool s,.bool g,.string (B d),.int .i64 e]
def behind (s:List UInt8):List UInt8:=if Lib.hasPrefix (rst s) [46] then rst (Lib.trimPrefix (rst s) [46]) else rst s
structure Prt where
 cls:Int
 sg:Bool
 sn:Bool
 dig:List UInt8
 ex:Int
def Prt.v (p:Prt):Value:=PV p.cls p.sg p.sn p.dig p.ex
def Prt.zero:Prt:=⟨0,false,false,[],0⟩
def Tb10 (w:World):Prop:=Lib.TabIs Tryz.prog w "internal/strconv.uint64pow10" .u64 Lib.pow10Tab
theorem Tb10.next {w w':World}(h:Tb10 w)(hb:Below w.heap.size w w'):Tb10 w':=Lib.tabBelow_of_tabIs h w' hb
end Go.Proofs.YtgknbdehlmlipaaGreatDoor
