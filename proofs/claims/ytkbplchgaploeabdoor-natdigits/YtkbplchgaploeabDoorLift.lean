/-
  Slices of words, opened; a world for the witness, with the listed variables laid.
-/
import Derived.Test.YtkbplchgaploeabDoorAwk
import Derived.ProofKit
import Derived.OpenShut
import Derived.Carry
import Derived.Deep.DeepHandedRow
import Derived.LaidLaws
set_option linter.unusedVariables false
namespace Go.Proofs.YtkbplchgaploeabDoor
open Go.ChangeShapes Go.WideShapes Go.ChangeAt Go.RowKit

theorem Tryd.own : ownKnob Tryd.prog.godebug = none := by kernel_rfl
theorem Tryd.laidOut : laidOutB Tryd.prog = true := by kernel_rfl
theorem Tryd.cells34 : Tryd.prog.cellsOf 34 = 1 := by kernel_rfl
theorem Tryd.rec22 : Tryd.prog.readableRec 22 = true := by kernel_rfl
theorem Tryd.row22 : (22 : TypeId) < Tryd.prog.types.size := of_decide_eq_true (by kernel_rfl)

section
variable {H : Type} {enc : TypeId × Value → H} {W : World} {r : Reach} {base : Nat} {v : Value} {d : DataW H} {p : List MemPlace}
def lenW (zs : List Int) (len i : Nat) : Int := if i < len then zs.getD i 0 else 0
theorem open_nat (hok : Value.okWide Tryd.prog W r base 22 v) (h : DataW.Trod enc Tryd.prog W 0 (fun _ => true) true 22 v d p) : ∃ a n c x, v = .slice a n c ∧ Num W a n c x := by
  obtain ⟨a0, len0, cap0, rfl⟩ := okWide_slice Tryd.underlying22 hok
  obtain ⟨fuel, hf⟩ := h
  rcases open_ints Tryd.underlying22 Tryd.underlying34 Tryd.cells34 hf with ⟨h1, _⟩ | ⟨a, len, cap, zs, h1, hb, hl, hm, hz, hx, hc, hw⟩
  · cases (List.cons.inj (show [Value.slice a0 len0 cap0] = [.slice none 0 0] from h1)).1
    exact ⟨none, 0, 0, fun _ => 0, rfl, Nat.le_refl _, by unfold maxLen; omega, fun _ => (by decide : (0 : Int) ≤ 0 ∧ (0 : Int) ≤ 18446744073709551615), fun _ _ => rfl, Or.inl ⟨rfl, rfl⟩⟩
  · cases (List.cons.inj (show [Value.slice a0 len0 cap0] = [.slice (some a) len cap] from h1)).1
    simp only [if_true] at hz
    have hh : a.spot = none ∧ a.block < W.heap.size := by
      simp only [Value.okWide, Tryd.underlying22, Cell.okWide, Cell.ok] at hok
      obtain ⟨_, _, hh⟩ := hok
      obtain ⟨_, h2, row, cells, h3, _⟩ := hh
      refine ⟨h2, ?_⟩
      rcases Nat.lt_or_ge a.block W.heap.size with h' | h'
      · exact h'
      · unfold World.shape? at h3; rw [Array.getElem?_eq_none h'] at h3; cases h3
    obtain ⟨b, off, spot⟩ := a
    obtain ⟨h2, h3⟩ := hh
    simp only at h2 h3
    subst h2
    refine ⟨some ⟨b, off, none⟩, len0, cap0, lenW zs len0, rfl, hl, hm, ?_, fun i hi => if_neg (by omega), Or.inr ⟨b, off, rfl, h3, fun i hi => ?_⟩⟩
    · intro i
      unfold lenW
      split
      · have := range_u64 hw i
        simpa [List.getD] using this
      · decide
    · have := hc i (by omega)
      rw [show (⟨b, off, none⟩ : Addr).add i = ⟨b, off + i, none⟩ by simp [Addr.add]] at this
      rw [this]; unfold lenW; rw [if_pos hi]
end

/-- Go's table 'first' and its ranges, as cells -/
def firstCells : Array Value := (((List.replicate 128 240 ++ List.replicate 66 241 ++ List.replicate 30 2 ++ [19] ++ List.replicate 12 3 ++ [35] ++ List.replicate 2 3 ++ [52] ++ List.replicate 3 4 ++ [68] ++ List.replicate 11 241 : List Int)).map fun n => Value.int .u8 n).toArray
def rangeCells : Array Value := ((([128, 191, 160, 191, 128, 159, 144, 191, 128, 143] ++ List.replicate 22 0 : List Int)).map fun n => Value.int .u8 n).toArray
theorem Tryd.gRanges : Tryd.prog.globalNamed "unicode/utf8.acceptRanges" = some 3 := by kernel_rfl
theorem Tryd.gFirst : Tryd.prog.globalNamed "unicode/utf8.first" = some 2 := by kernel_rfl
def layCells (c : Array Value) : Obj → Obj
  | .cells _ t frozen => .cells c t frozen
  | o => o
noncomputable def laidWorld (os : Os) : World :=
  { World.holding Tryd.prog os ⟨#[], #[], []⟩ with heap := ((World.holding Tryd.prog os ⟨#[], #[], []⟩).heap.modify 2 (layCells firstCells)).modify 3 (layCells rangeCells) }
end Go.Proofs.YtkbplchgaploeabDoor
