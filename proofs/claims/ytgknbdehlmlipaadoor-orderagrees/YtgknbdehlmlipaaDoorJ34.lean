/-
  Texts that the proof leans on.
-/
import Derived.Test.YtgknbdehlmlipaaDoorJ28
import Derived.Test.YtgknbdehlmlipaaDoorJ19
import Derived.Test.YtgknbdehlmlipaaDoorJ18
import Derived.Test.YtgknbdehlmlipaaDoorJ17
import Derived.Test.YtgknbdehlmlipaaDoorJ11
import Derived.Test.YtgknbdehlmlipaaDoorJ21
import Derived.Test.YtgknbdehlmlipaaDoorJ27
set_option linter.unusedVariables false
set_option linter.unusedSectionVars false
set_option linter.unusedSimpArgs false
set_option maxRecDepth 20000
namespace Go.Proofs.YtgknbdehlmlipaaDoor
open Go.RowKit

attribute [local irreducible] W4 NT
/-- a pattern lies in a block of its own -/
structure B4 (g X : Nat) (w : World) : Prop where
  lt : g < w.heap.size
  c0 : w.cell? ⟨g, 0, none⟩ = some (.int .u64 (W4 X 0))
  c1 : w.cell? ⟨g, 1, none⟩ = some (.int .u64 (W4 X 1))
  c2 : w.cell? ⟨g, 2, none⟩ = some (.int .u64 (W4 X 2))
  c3 : w.cell? ⟨g, 3, none⟩ = some (.int .u64 (W4 X 3))
  f0 : w.frozen? ⟨g, 0, none⟩ = false
  f1 : w.frozen? ⟨g, 1, none⟩ = false
  f2 : w.frozen? ⟨g, 2, none⟩ = false
  f3 : w.frozen? ⟨g, 3, none⟩ = false
theorem B4.next {g X : Nat} {w w' : World} (h : B4 g X w) (hb : Below w.heap.size w w') : B4 g X w' :=
  ⟨Nat.lt_of_lt_of_le h.lt hb.size, (hb.cell (p := ⟨g, 0, none⟩) h.lt).trans h.c0, (hb.cell (p := ⟨g, 1, none⟩) h.lt).trans h.c1, (hb.cell (p := ⟨g, 2, none⟩) h.lt).trans h.c2, (hb.cell (p := ⟨g, 3, none⟩) h.lt).trans h.c3,
    (hb.frozen (p := ⟨g, 0, none⟩) h.lt).trans h.f0, (hb.frozen (p := ⟨g, 1, none⟩) h.lt).trans h.f1, (hb.frozen (p := ⟨g, 2, none⟩) h.lt).trans h.f2, (hb.frozen (p := ⟨g, 3, none⟩) h.lt).trans h.f3⟩
theorem B4.new (w : World) (t : TypeId) : B4 w.heap.size 0 (w.alloc (.cells #[.int .u64 0, .int .u64 0, .int .u64 0, .int .u64 0] t)) := by
  refine ⟨by simp, ?_, ?_, ?_, ?_, ?_, ?_, ?_, ?_⟩ <;> first | (rw [W4_zero]; go_simp) | go_simp
/-- a pattern written over another one -/
abbrev put4B (w : World) (g X : Nat) : World := (((w.setCell ⟨g, 0, none⟩ (.int .u64 (W4 X 0))).setCell ⟨g, 1, none⟩ (.int .u64 (W4 X 1))).setCell ⟨g, 2, none⟩ (.int .u64 (W4 X 2))).setCell ⟨g, 3, none⟩ (.int .u64 (W4 X 3))
theorem B4.put {g X Y : Nat} {w : World} (h : B4 g X w) : B4 g Y (put4B w g Y) := by
  have hsm := cell_set_map
  obtain ⟨h0, h1, h2, h3, h4, h5, h6, h7, h8⟩ := h
  refine ⟨by simp; exact h0, ?_, ?_, ?_, ?_, ?_, ?_, ?_, ?_⟩ <;> go_simp
theorem B4.other {g h X Y : Nat} {w : World} (hB : B4 g X w) (hne : g ≠ h) : B4 g X (put4B w h Y) := by
  obtain ⟨h0, h1, h2, h3, h4, h5, h6, h7, h8⟩ := hB
  refine ⟨by simp; exact h0, ?_, ?_, ?_, ?_, ?_, ?_, ?_, ?_⟩ <;> go_simp
section
variable {P : Program} {a : Act} {w : World} {K : Act → World → Prop} {Q : Exit → Act → World → Prop} {d p q : Nat} {ty : TypeId} {pos : String} {after : Array Edge} {gd : Option (Nat × Bool)}
end
end Go.Proofs.YtgknbdehlmlipaaDoor
