/-
  Texts that the proof leans on.
-/
import Derived.Test.YtjfeaiaafbaobaaGreatDoorJ2
import Derived.RegionTactic
import Derived.ChangeAlike
import Derived.BigRegion
import Derived.Laws.Strings2
import Derived.Lib.AppendStr
import Derived.Lib.Builder
import Derived.Deep.AppendLies
import Derived.Lib.ItoaLen
set_option linter.unusedVariables false
set_option linter.unusedSimpArgs false
set_option linter.unusedSectionVars false
set_option maxRecDepth 20000
namespace Go.Proofs.YtjfeaiaafbaobaaGreatDoor
open Go.RowKit
structure Prt where
 cls:Int
 sg:Bool
 sn:Bool
 dig:List UInt8
 ex:Int
def Prt.v (p:Prt):Value:=PV p.cls p.sg p.sn p.dig p.ex
def Prt.zero:Prt:=⟨0,false,false,[],0⟩
structure Ap (Bs H:Nat) (cs:Array Value) (v:Value) (l:List UInt8) (w0 w:World):Prop where
 own:w.ownsRow Bs 5 1 v l.length (Lib.byteCells l)
 box:w.heap[H]?=some (.cells cs 88)
 bel:Below Bs w0 w
 bs:Bs<=w.heap.size
theorem Ap.lt {Bs H:Nat}{cs:Array Value}{v:Value}{l:List UInt8}{w0 w:World}(h:Ap Bs H cs v l w0 w):H<w.heap.size:=by
 rcases Nat.lt_or_ge H w.heap.size with h'|h'
 ·exact h'
 ·have:=h.box;rw [Array.getElem?_eq_none h'] at this;cases this
theorem Ap.cell {Bs H:Nat}{cs:Array Value}{v:Value}{l:List UInt8}{w0 w:World}(h:Ap Bs H cs v l w0 w)(i:Nat):w.cell? ⟨H,i,none⟩=cs[i]?:=by
 unfold World.cell?
 have hh:=h.box
 simp [hh]
theorem Ap.alloc {Bs H:Nat}{cs:Array Value}{v:Value}{l:List UInt8}{w0 w:World}(h:Ap Bs H cs v l w0 w)(o:Obj):Ap Bs H cs v l w0 (w.alloc o) :=
 ⟨h.own.alloc o,by
  have:=h.lt
  rw [show (w.alloc o).heap[H]?=(w.heap.push o)[H]? from rfl,Array.getElem?_push_lt this,← Array.getElem?_eq_getElem this]
  exact h.box,h.bel.alloc h.bs _,by simp;have:=h.bs;omega⟩
def Tb10 (w:World):Prop:=Lib.TabIs Tryz.prog w "internal/strconv.uint64pow10" .u64 Lib.pow10Tab
theorem Tb10.next {w w':World}(h:Tb10 w)(hb:Below w.heap.size w w'):Tb10 w':=Lib.tabBelow_of_tabIs h w' hb
end Go.Proofs.YtjfeaiaafbaobaaGreatDoor
