/-
  Texts that the proof leans on.
-/
import Derived.Test.YtgknbdehlmlipaaDoorJ5
import Derived.Deep.QuietTactic
import Derived.BigQuiet
import Derived.Lib.Strings
import Derived.Laws.IdiomStrings
import Derived.Test.YtgknbdehlmlipaaDoorJ2
set_option linter.unusedVariables false
set_option linter.unusedSimpArgs false
set_option maxRecDepth 20000
set_option linter.unusedSectionVars false
namespace Go.Proofs.YtgknbdehlmlipaaDoor
open Go.RowKit

/-- block g holds n bytes, which may be written -/
structure By (g n : Nat) (x : Nat → Int) (W : World) : Prop where
  lt : g < W.heap.size
  cell : ∀ j, j < n → W.cell? ⟨g, j, none⟩ = some (.int .u8 (x j))
  frz : ∀ j, j < n → W.frozen? ⟨g, j, none⟩ = false
theorem By.set {g n : Nat} {x : Nat → Int} {W : World} (h : By g n x W) (i : Nat) (v : Int) : By g n (fun j => if j = i then v else x j) (W.setCell ⟨g, i, none⟩ (.int .u8 v)) := by
  refine ⟨by simpa using h.lt, fun j hj => ?_, fun j hj => by rw [World.frozen?_setCell]; exact h.frz j hj⟩
  show _ = some (Value.int .u8 (if j = i then v else x j))
  by_cases e : j = i
  · subst e
    rw [if_pos rfl]
    exact World.cell?_setCell_same (h := h.cell j hj) ..
  · rw [if_neg e]
    exact (World.cell?_setCell_other (h := by intro h; cases h; exact e rfl) ..).trans (h.cell j hj)
end Go.Proofs.YtgknbdehlmlipaaDoor

namespace Go.Proofs.YtgknbdehlmlipaaDoor
open Go.RowKit

/-- parts, as a value -/
def PV (c : Int) (s g : Bool) (d : List UInt8) (e : Int) : Value := .agg #[.int .i64 c, .bool s, .bool g, .string (B d), .int .i64 e]
def behind (s : List UInt8) : List UInt8 := if Lib.hasPrefix (rst s) [46] then rst (Lib.trimPrefix (rst s) [46]) else rst s
end Go.Proofs.YtgknbdehlmlipaaDoor

namespace Go.Proofs.YtgknbdehlmlipaaDoor
open Go.RowKit

section
variable {P : Program} {ops : Array Oper} {Q : Exit → Act → World → Prop} {md : Region.Mode}
/-- this value -/
def isV (u : Value) : Value → World → Prop := fun v _ => v = u
theorem isV.stays (u : Value) : Stays (isV u) := fun v w w' h _ => h
end
end Go.Proofs.YtgknbdehlmlipaaDoor
