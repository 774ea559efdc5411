/-
  Texts that the proof leans on.
-/
import Derived.Test.YtgknbdehlmlipaaGreatDoorR4
import Derived.Laws.IdiomStrings
import Derived.Test.YtgknbdehlmlipaaGreatDoorR5
set_option linter.unusedVariables false
set_option linter.unusedSimpArgs false
set_option linter.unusedSectionVars false
set_option maxRecDepth 20000
namespace Go.Proofs.YtgknbdehlmlipaaGreatDoor
open Go.RowKit
/-- block g holds n bytes, which may be written -/
structure By (g n : Nat) (x : Nat → Int) (W : World) : Prop where
  lt : g < W.heap.size
  cell : ∀ j, j < n → W.cell? ⟨g, j, none⟩ = some (.int .u8 (x j))
  frz : ∀ j, j < n → W.frozen? ⟨g, j, none⟩ = false
theorem By.set {g n : Nat} {x : Nat → Int} {W : World} (h : By g n x W) (i : Nat) (v : Int) : By g n (fun j => if j = i then v else x j) (W.setCell ⟨g, i, none⟩ (.int .u8 v)) := by
  refine ⟨by simpa using h.lt, fun j hj => ?_, fun j hj => by rw [World.frozen?_setCell]; exact h.frz j hj⟩
  show _ = some (Value.int .u8 (if j = i then v else x j))
  by_cases e : j = i
  · subst e
    rw [if_pos rfl]
    exact World.cell?_setCell_same (h := h.cell j hj) ..
  · rw [if_neg e]
    exact (World.cell?_setCell_other (h := by intro h; cases h; exact e rfl) ..).trans (h.cell j hj)
theorem By.of {l : List UInt8} {w : World} {cap : Nat} : By w.heap.size l.length (by_ l) (w.drew.alloc (.cells (bytesRow (B l) cap) 5 ((bytesRow (B l) cap).size, (bytesRow (B l) cap).size + 1))) := by
  have hsz : l.length ≤ (bytesRow (B l) cap).size := by unfold bytesRow; simp [B]
  refine ⟨by simp, fun j hj => ?_, fun j hj => ?_⟩
  · have : (bytesRow (B l) cap)[j]? = some (.int .u8 (by_ l j)) := by
      unfold bytesRow by_
      rw [dif_pos hj, Array.getElem?_append_left (by simpa [B] using hj)]
      simp [B, hj]
    have hh : (w.drew.alloc (.cells (bytesRow (B l) cap) 5 ((bytesRow (B l) cap).size, (bytesRow (B l) cap).size + 1))).heap[w.heap.size]? = some (.cells (bytesRow (B l) cap) 5 ((bytesRow (B l) cap).size, (bytesRow (B l) cap).size + 1)) := by
      show (Array.push w.heap _)[w.heap.size]? = _
      simp
    unfold World.cell?
    simp only [hh]
    simp [this]
  · have hh : (w.drew.alloc (.cells (bytesRow (B l) cap) 5 ((bytesRow (B l) cap).size, (bytesRow (B l) cap).size + 1))).heap[w.heap.size]? = some (.cells (bytesRow (B l) cap) 5 ((bytesRow (B l) cap).size, (bytesRow (B l) cap).size + 1)) := by
      show (Array.push w.heap _)[w.heap.size]? = _
      simp
    unfold World.frozen?
    simp only [hh]
    simp
    omega
/-- parts, as a value -/
def PV (c : Int) (s g : Bool) (d : List UInt8) (e : Int) : Value := .agg #[.int .i64 c, .bool s, .bool g, .string (B d), .int .i64 e]
def behind (s : List UInt8) : List UInt8 := if Lib.hasPrefix (rst s) [46] then rst (Lib.trimPrefix (rst s) [46]) else rst s
end Go.Proofs.YtgknbdehlmlipaaGreatDoor
