/-
  Texts that the proof leans on.
-/
import Derived.Test.YtgknbdehlmlipaaDoorJ22
import Derived.Test.YtgknbdehlmlipaaDoorJ23
import Derived.Laws.IdiomCopy
import Derived.Deep.Cut
import Derived.Deep.CutRange
import Derived.Deep.RegionWith
set_option linter.unusedVariables false
set_option linter.unusedSectionVars false
set_option linter.unusedSimpArgs false
set_option maxRecDepth 20000
namespace Go.Proofs.YtgknbdehlmlipaaDoor
open Go.RowKit

attribute [local irreducible] W4
/-- the exponent, brought within reach -/
def wiZ (f : Nat) (l m lead x : Int) : Int := min (max x (l - 2 - lead)) (m + ((f : Int) + 1) - lead)
end Go.Proofs.YtgknbdehlmlipaaDoor

namespace Go.Proofs.YtgknbdehlmlipaaDoor
open Go.RowKit

/-- a block holds a format -/
structure Ib (w : World) (g : Nat) (n : Int) (nm : ByteArray) (wd : Int) (f e : Nat) (l m : Int) : Prop where
  c0 : w.cell? ⟨g, 0, none⟩ = some (.int .i64 n)
  c1 : w.cell? ⟨g, 1, none⟩ = some (.string nm)
  c2 : w.cell? ⟨g, 2, none⟩ = some (.int .i64 2)
  c3 : w.cell? ⟨g, 3, none⟩ = some (.int .i64 wd)
  c4 : w.cell? ⟨g, 4, none⟩ = some (.int .i64 ((f : Int) + 1))
  c5 : w.cell? ⟨g, 5, none⟩ = some (.int .i64 e)
  c6 : w.cell? ⟨g, 6, none⟩ = some (.int .i64 l)
  c7 : w.cell? ⟨g, 7, none⟩ = some (.int .i64 m)
  c8 : w.cell? ⟨g, 8, none⟩ = some (.int .i64 ((f : Int) - 1))
  c9 : w.cell? ⟨g, 9, none⟩ = some (.bool false)
theorem Ib.next {w w' : World} {g : Nat} {n : Int} {nm : ByteArray} {wd : Int} {f e : Nat} {l m : Int} (h : Ib w g n nm wd f e l m) (hg : g < w.heap.size) (hb : Below w.heap.size w w') : Ib w' g n nm wd f e l m :=
  ⟨by rw [hb.cell (p := ⟨g, 0, none⟩) hg, h.c0], by rw [hb.cell (p := ⟨g, 1, none⟩) hg, h.c1], by rw [hb.cell (p := ⟨g, 2, none⟩) hg, h.c2], by rw [hb.cell (p := ⟨g, 3, none⟩) hg, h.c3], by rw [hb.cell (p := ⟨g, 4, none⟩) hg, h.c4], by rw [hb.cell (p := ⟨g, 5, none⟩) hg, h.c5], by rw [hb.cell (p := ⟨g, 6, none⟩) hg, h.c6], by rw [hb.cell (p := ⟨g, 7, none⟩) hg, h.c7], by rw [hb.cell (p := ⟨g, 8, none⟩) hg, h.c8], by rw [hb.cell (p := ⟨g, 9, none⟩) hg, h.c9]⟩
attribute [local irreducible] W4 Nz Nt
end Go.Proofs.YtgknbdehlmlipaaDoor

namespace Go.Proofs.YtgknbdehlmlipaaDoor
open Go.RowKit

/-- the exponent within reach, the unit's exponent, the coefficient, and both behind the carry -/
def rX (n : Int) (N D : Nat) (x : Int) : Int := wiZ (fN n) (leastN n) (mostN n) (ld N D) x
def rQ (n : Int) (N D : Nat) (x : Int) : Int := max (leastN n) (ld N D + rX n N D x - ((fN n : Int) + 1) + 1)
end Go.Proofs.YtgknbdehlmlipaaDoor
