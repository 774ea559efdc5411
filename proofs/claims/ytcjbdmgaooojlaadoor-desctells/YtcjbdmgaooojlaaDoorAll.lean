/-
  What All does: a contract.
-/
import Derived.Test.YtcjbdmgaooojlaaDoorSam
set_option linter.unusedVariables false
set_option linter.unusedSimpArgs false
namespace Go.Proofs.YtcjbdmgaooojlaaDoor
open Go.RowKit

def zeros120 : Array Value := ((List.range 12).flatMap fun _ => (infoV 0).toList).toArray
theorem make12 (w : World) : (Instr.makeSlice 31 (.int .i64 12) (.int .i64 12)).run Tryd.prog w = .ok (.slice (some ⟨w.heap.size, 0, none⟩) 12 12) (w.alloc (.cells zeros120 24)) := by kernel_rfl
theorem zeros120_size : zeros120.size = 120 := by kernel_rfl
/-- cell m of the list of all formats -/
def infoM (m : Nat) : Option Value := (infoV ((m / 10 : Nat) + 1))[m % 10]?
/-- the first n cells are laid in block g; all of its cells are there -/
structure Part (w0 : World) (g n : Nat) (w : World) : Prop where
  below : Below w0.heap.size w0 w
  ge : w0.heap.size ≤ g
  lt : g < w.heap.size
  cell : ∀ m, m < 120 → (w.cell? ⟨g, m, none⟩).isSome = true
  loose : ∀ m, w.frozen? ⟨g, m, none⟩ = false
  done : ∀ m, m < n → w.cell? ⟨g, m, none⟩ = infoM m
theorem Part.next {w0 w w' : World} {g i : Nat} (h : Part w0 g i w) (hb : Below w.heap.size w w') : Part w0 g i w' :=
  ⟨h.below.trans (hb.mono h.below.size), h.ge, Nat.lt_of_lt_of_le h.lt hb.size, fun m hm => by rw [hb.cell (p := ⟨g, m, none⟩) h.lt]; exact h.cell m hm,
    fun m => by rw [hb.frozen (p := ⟨g, m, none⟩) h.lt]; exact h.loose m, fun m hm => by rw [hb.cell (p := ⟨g, m, none⟩) h.lt]; exact h.done m hm⟩
theorem Part.old {w0 w : World} {g i : Nat} (h : Part w0 g (i * 10) w) (hi : i < 12) (k : Nat) (hk : k < 10) : ∃ v, w.cell? ⟨g, i * 10 + k, none⟩ = some v :=
  Option.isSome_iff_exists.1 (h.cell _ (by omega))
theorem Part.set {w0 w : World} {g n : Nat} (h : Part w0 g n w) (hn : n < 120) {v : Value} (hv : infoM n = some v) : Part w0 g (n + 1) (w.setCell ⟨g, n, none⟩ v) := by
  have hsame : ∀ m, m < n + 1 → (w.setCell ⟨g, n, none⟩ v).cell? ⟨g, m, none⟩ = infoM m := by
    intro m hm
    by_cases e : m = n
    · subst e; rw [hv]; exact World.cell?_setCell_same' _ _ _ (h.cell m hn)
    · exact Eq.trans (World.cell?_setCell_other (h := by intro q; cases q; exact e rfl) ..) (h.done m (by omega))
  refine ⟨h.below.setCell h.ge v, h.ge, Nat.lt_of_lt_of_le h.lt ((Below.refl 0 _).setCell (Nat.zero_le _) _ : Below 0 _ _).size, fun m hm => ?_, fun m => by rw [World.frozen?_setCell]; exact h.loose m, hsame⟩
  by_cases e : m = n
  · subst e; rw [hsame m (by omega), hv]; rfl
  · rw [World.cell?_setCell_other (h := by intro q; cases q; exact e rfl) ..]; exact h.cell m hm
theorem infoM_at (i k : Nat) (hk : k < 10) : infoM (i * 10 + k) = (infoV (i + 1))[k]? := by
  unfold infoM
  have h1 : (i * 10 + k) / 10 = i := by omega
  have h2 : (i * 10 + k) % 10 = k := by omega
  rw [h1, h2]
theorem Part.put {w0 w : World} {g i : Nat} (h : Part w0 g (i * 10) w) (hi : i < 12) : Part w0 g ((i + 1) * 10)
    ((((((((((w.setCell ⟨g, i * 10, none⟩ (.int .i64 (numN (i + 1)))).setCell ⟨g, i * 10 + 1, none⟩ (.string (nameN (i + 1)))).setCell ⟨g, i * 10 + 2, none⟩ (.int .i64 (baseN (i + 1)))).setCell ⟨g, i * 10 + 3, none⟩ (.int .i64 (widthN (i + 1)))).setCell
      ⟨g, i * 10 + 4, none⟩ (.int .i64 (precN (i + 1)))).setCell ⟨g, i * 10 + 5, none⟩ (.int .i64 (expN (i + 1)))).setCell ⟨g, i * 10 + 6, none⟩ (.int .i64 (leastN (i + 1)))).setCell ⟨g, i * 10 + 7, none⟩ (.int .i64 (mostN (i + 1)))).setCell
      ⟨g, i * 10 + 8, none⟩ (.int .i64 (payN (i + 1)))).setCell ⟨g, i * 10 + 9, none⟩ (.bool (denseN (i + 1)))) := by
  have e : ∀ k, k < 10 → infoM (i * 10 + k) = #[Value.int .i64 (numN (i + 1)), .string (nameN (i + 1)), .int .i64 (baseN (i + 1)), .int .i64 (widthN (i + 1)), .int .i64 (precN (i + 1)), .int .i64 (expN (i + 1)), .int .i64 (leastN (i + 1)), .int .i64 (mostN (i + 1)), .int .i64 (payN (i + 1)), .bool (denseN (i + 1))][k]? := fun k hk => by
    rw [infoM_at i k hk, infoV_eq]
  have s : (i + 1) * 10 = i * 10 + 9 + 1 := by omega
  rw [s]
  exact (((((((((h.set (by omega) (e 0 (by decide))).set (by omega) (e 1 (by decide))).set (by omega) (e 2 (by decide))).set (by omega) (e 3 (by decide))).set (by omega) (e 4 (by decide))).set (by omega) (e 5 (by decide))).set (by omega) (e 6 (by decide))).set (by omega) (e 7 (by decide))).set (by omega) (e 8 (by decide))).set (by omega) (e 9 (by decide))
theorem Part.start (w : World) : Part w w.heap.size (0 * 10) (w.alloc (.cells zeros120 24)) :=
  ⟨below1' w _, Nat.le_refl _, by simp, fun m hm => by rw [World.cell?_alloc_new]; simp [zeros120_size, hm], fun m => by simp, fun m hm => by omega⟩

set_option maxRecDepth 20000 in
set_option maxHeartbeats 400000 in
theorem all_any (w : World) (hT : Tab w) :
    Calls Tryd.prog 12 #[] w fun e w' => ∃ g, e = .returned (.slice (some ⟨g, 0, none⟩) 12 12) ∧ Part w g 120 w' := by
  have hmk := make12
  have hst := Part.start w
  go_enter Tryd.func12, Tryd.ntmps12
  go_wp2
  go_loopw [6] (fun t wr => ∃ i : Nat, i ≤ 12 ∧ t = .int .i64 i ∧ Part w w.heap.size (i * 10) wr) (fun t _ => 12 - (intOf t).toNat)
  case atStart => exact ⟨0, by decide, rfl, hst⟩
  case round =>
    obtain ⟨i, hi, rfl, hP⟩ := hrel
    by_cases h : i < 12
    · have h1 : (i : Int) < 12 := by omega
      have hT1 := hT.go hP.below
      go_wp2_with (go_at_call 10; refine (ofv_any _ _ hT1).mono ?_; rintro e w1 ⟨rfl, hb⟩; have hP1 := hP.next hb; have hz := hP1.loose; obtain ⟨v0, e0⟩ := hP1.old h 0 (by decide); obtain ⟨v1, e1⟩ := hP1.old h 1 (by decide); obtain ⟨v2, e2⟩ := hP1.old h 2 (by decide); obtain ⟨v3, e3⟩ := hP1.old h 3 (by decide); obtain ⟨v4, e4⟩ := hP1.old h 4 (by decide); obtain ⟨v5, e5⟩ := hP1.old h 5 (by decide); obtain ⟨v6, e6⟩ := hP1.old h 6 (by decide); obtain ⟨v7, e7⟩ := hP1.old h 7 (by decide); obtain ⟨v8, e8⟩ := hP1.old h 8 (by decide); obtain ⟨v9, e9⟩ := hP1.old h 9 (by decide); rw [Nat.add_zero] at e0)
      exact ⟨⟨i + 1, by omega, by simp, hP1.put h⟩, by simp [intOf]; omega⟩
    · obtain rfl : i = 12 := by omega
      go_wp2
      go_ret
      exact ⟨_, rfl, hP⟩
end Go.Proofs.YtcjbdmgaooojlaaDoor
