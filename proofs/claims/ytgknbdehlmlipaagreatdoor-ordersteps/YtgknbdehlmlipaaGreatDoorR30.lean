/-
  Texts that the proof leans on.
-/
import Derived.Test.YtgknbdehlmlipaaGreatDoorR22
set_option linter.unusedVariables false
set_option linter.unusedSectionVars false
set_option linter.unusedSimpArgs false
set_option maxRecDepth 20000
namespace Go.Proofs.YtgknbdehlmlipaaGreatDoor
open Go.RowKit
section
/-- a block holds four words of a number, from a place on -/
structure Four (w : World) (g o k : Nat) : Prop where
  cell : ∀ i, i < 4 → w.cell? ⟨g, o + i, none⟩ = some (.int .u64 (W4 k i))
theorem Four.of {w : World} {g o k : Nat} (h0 : w.cell? ⟨g, o + 0, none⟩ = some (.int .u64 (W4 k 0))) (h1 : w.cell? ⟨g, o + 1, none⟩ = some (.int .u64 (W4 k 1))) (h2 : w.cell? ⟨g, o + 2, none⟩ = some (.int .u64 (W4 k 2))) (h3 : w.cell? ⟨g, o + 3, none⟩ = some (.int .u64 (W4 k 3))) : Four w g o k :=
  ⟨fun i hi => by
    have : i = 0 ∨ i = 1 ∨ i = 2 ∨ i = 3 := by omega
    rcases this with rfl | rfl | rfl | rfl <;> assumption⟩
theorem Four.next {w w' : World} {g o k : Nat} (h : Four w g o k) (hg : g < w.heap.size) (hb : Below w.heap.size w w') : Four w' g o k :=
  ⟨fun i hi => by rw [hb.cell (p := ⟨g, o + i, none⟩) hg]; exact h.cell i hi⟩
/-- a block holds a datum -/
structure Dc (w : World) (g : Nat) (c : Int) (s b : Bool) (x : Int) (k : Nat) : Prop where
  c0 : w.cell? ⟨g, 0, none⟩ = some (.int .i64 c)
  c1 : w.cell? ⟨g, 1, none⟩ = some (.bool s)
  c2 : w.cell? ⟨g, 2, none⟩ = some (.bool b)
  c3 : w.cell? ⟨g, 3, none⟩ = some (.int .i64 x)
  c4 : w.cell? ⟨g, 4, none⟩ = some (.int .u64 (W4 k 0))
  c5 : w.cell? ⟨g, 5, none⟩ = some (.int .u64 (W4 k 1))
  c6 : w.cell? ⟨g, 6, none⟩ = some (.int .u64 (W4 k 2))
  c7 : w.cell? ⟨g, 7, none⟩ = some (.int .u64 (W4 k 3))
theorem Dc.next {w w' : World} {g : Nat} {c : Int} {s b : Bool} {x : Int} {k : Nat} (h : Dc w g c s b x k) (hg : g < w.heap.size) (hb : Below w.heap.size w w') : Dc w' g c s b x k :=
  ⟨by rw [hb.cell (p := ⟨g, 0, none⟩) hg, h.c0], by rw [hb.cell (p := ⟨g, 1, none⟩) hg, h.c1], by rw [hb.cell (p := ⟨g, 2, none⟩) hg, h.c2], by rw [hb.cell (p := ⟨g, 3, none⟩) hg, h.c3],
   by rw [hb.cell (p := ⟨g, 4, none⟩) hg, h.c4], by rw [hb.cell (p := ⟨g, 5, none⟩) hg, h.c5], by rw [hb.cell (p := ⟨g, 6, none⟩) hg, h.c6], by rw [hb.cell (p := ⟨g, 7, none⟩) hg, h.c7]⟩
/-- what stands in the words below i -/
def mo (A B i : Nat) : Bool := decide (val (W4 B) i < val (W4 A) i)
attribute [local irreducible] W4 mo
end
end Go.Proofs.YtgknbdehlmlipaaGreatDoor
