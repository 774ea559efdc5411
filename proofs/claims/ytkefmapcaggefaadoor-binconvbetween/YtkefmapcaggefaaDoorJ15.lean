/-
  Texts that the proof leans on, joined: Fi.
-/
import Derived.Test.YtkefmapcaggefaaDoorJ7
import Derived.Test.YtkefmapcaggefaaDoorJ14
import Derived.Laws.IdiomCopy
import Derived.Test.YtkefmapcaggefaaDoorJ1
set_option linter.unusedVariables false
set_option linter.unusedSectionVars false
set_option linter.unusedSimpArgs false
set_option maxRecDepth 20000
namespace Go.Proofs.YtkefmapcaggefaaDoor
open Go.RowKit

/-- what desc tells of a binary format -/
abbrev DI (n : Int) (nm : ByteArray) (wd : Int) (f e : Nat) (l m : Int) : Value := .agg #[.int .i64 n, .string nm, .int .i64 2, .int .i64 wd, .int .i64 ((f : Int) + 1), .int .i64 e, .int .i64 l, .int .i64 m, .int .i64 ((f : Int) - 1), .bool false]
theorem copy0 (W : World) (d a : Option Addr) (cap : Nat) : Sem.run Tryd.prog (Builtin.copy_ #[67, 67] 3 #[.slice d 4 4, .slice a 0 cap]) W = .ok (.int .i64 0) W :=
  run_copy_none (P := Tryd.prog) W 67 67 3 22 d a 4 4 0 cap Tryd.underlying67 (by kernel_rfl) rfl
theorem copy1 (W : World) (g b off cap : Nat) (v0 : Int) (h0 : W.cell? ⟨b, off, none⟩ = some (.int .u64 v0)) (c0 : (W.cell? ⟨g, 4, none⟩).isSome = true) (f0 : W.frozen? ⟨g, 4, none⟩ = false) :
    Sem.run Tryd.prog (Builtin.copy_ #[67, 67] 3 #[.slice (some ⟨g, 4, none⟩) 4 4, .slice (some ⟨b, off, none⟩) 1 cap]) W = .ok (.int .i64 1) (W.setCell ⟨g, 4, none⟩ (.int .u64 v0)) := by
  have := run_copy_cells (P := Tryd.prog) W 67 67 3 22 g 4 4 4 ⟨b, off, none⟩ 1 cap [.int .u64 v0] Tryd.underlying67 (by kernel_rfl) rfl ?_ ?_ ?_ ?_
  · exact this
  · intro j v
    match j, v with
    | 0, _ => intro h; cases h; simpa [Addr.add] using h0
    | (j + 1), _ => intro h; simp at h
  · intro j hj
    match j, hj with
    | 0, _ => simpa using c0
    | (j + 1), h => exact absurd h (by simp only [List.length_cons, List.length_nil]; omega)
  · intro j hj
    match j, hj with
    | 0, _ => simpa using f0
    | (j + 1), h => exact absurd h (by simp only [List.length_cons, List.length_nil]; omega)
  · intro v hv
    simp at hv
    first | (subst hv; rfl) | (rcases hv with rfl | rfl <;> rfl) | (rcases hv with rfl | rfl | rfl <;> rfl) | (rcases hv with rfl | rfl | rfl | rfl <;> rfl)
theorem copy2 (W : World) (g b off cap : Nat) (v0 v1 : Int) (h0 : W.cell? ⟨b, off, none⟩ = some (.int .u64 v0)) (h1 : W.cell? ⟨b, off + 1, none⟩ = some (.int .u64 v1)) (c0 : (W.cell? ⟨g, 4, none⟩).isSome = true) (f0 : W.frozen? ⟨g, 4, none⟩ = false) (c1 : (W.cell? ⟨g, 5, none⟩).isSome = true) (f1 : W.frozen? ⟨g, 5, none⟩ = false) :
    Sem.run Tryd.prog (Builtin.copy_ #[67, 67] 3 #[.slice (some ⟨g, 4, none⟩) 4 4, .slice (some ⟨b, off, none⟩) 2 cap]) W = .ok (.int .i64 2) ((W.setCell ⟨g, 4, none⟩ (.int .u64 v0)).setCell ⟨g, 5, none⟩ (.int .u64 v1)) := by
  have := run_copy_cells (P := Tryd.prog) W 67 67 3 22 g 4 4 4 ⟨b, off, none⟩ 2 cap [.int .u64 v0, .int .u64 v1] Tryd.underlying67 (by kernel_rfl) rfl ?_ ?_ ?_ ?_
  · exact this
  · intro j v
    match j, v with
    | 0, _ => intro h; cases h; simpa [Addr.add] using h0
    | 1, _ => intro h; cases h; simpa [Addr.add] using h1
    | (j + 2), _ => intro h; simp at h
  · intro j hj
    match j, hj with
    | 0, _ => simpa using c0
    | 1, _ => simpa using c1
    | (j + 2), h => exact absurd h (by simp only [List.length_cons, List.length_nil]; omega)
  · intro j hj
    match j, hj with
    | 0, _ => simpa using f0
    | 1, _ => simpa using f1
    | (j + 2), h => exact absurd h (by simp only [List.length_cons, List.length_nil]; omega)
  · intro v hv
    simp at hv
    first | (subst hv; rfl) | (rcases hv with rfl | rfl <;> rfl) | (rcases hv with rfl | rfl | rfl <;> rfl) | (rcases hv with rfl | rfl | rfl | rfl <;> rfl)
theorem copy3 (W : World) (g b off cap : Nat) (v0 v1 v2 : Int) (h0 : W.cell? ⟨b, off, none⟩ = some (.int .u64 v0)) (h1 : W.cell? ⟨b, off + 1, none⟩ = some (.int .u64 v1)) (h2 : W.cell? ⟨b, off + 2, none⟩ = some (.int .u64 v2)) (c0 : (W.cell? ⟨g, 4, none⟩).isSome = true) (f0 : W.frozen? ⟨g, 4, none⟩ = false) (c1 : (W.cell? ⟨g, 5, none⟩).isSome = true) (f1 : W.frozen? ⟨g, 5, none⟩ = false) (c2 : (W.cell? ⟨g, 6, none⟩).isSome = true) (f2 : W.frozen? ⟨g, 6, none⟩ = false) :
    Sem.run Tryd.prog (Builtin.copy_ #[67, 67] 3 #[.slice (some ⟨g, 4, none⟩) 4 4, .slice (some ⟨b, off, none⟩) 3 cap]) W = .ok (.int .i64 3) (((W.setCell ⟨g, 4, none⟩ (.int .u64 v0)).setCell ⟨g, 5, none⟩ (.int .u64 v1)).setCell ⟨g, 6, none⟩ (.int .u64 v2)) := by
  have := run_copy_cells (P := Tryd.prog) W 67 67 3 22 g 4 4 4 ⟨b, off, none⟩ 3 cap [.int .u64 v0, .int .u64 v1, .int .u64 v2] Tryd.underlying67 (by kernel_rfl) rfl ?_ ?_ ?_ ?_
  · exact this
  · intro j v
    match j, v with
    | 0, _ => intro h; cases h; simpa [Addr.add] using h0
    | 1, _ => intro h; cases h; simpa [Addr.add] using h1
    | 2, _ => intro h; cases h; simpa [Addr.add] using h2
    | (j + 3), _ => intro h; simp at h
  · intro j hj
    match j, hj with
    | 0, _ => simpa using c0
    | 1, _ => simpa using c1
    | 2, _ => simpa using c2
    | (j + 3), h => exact absurd h (by simp only [List.length_cons, List.length_nil]; omega)
  · intro j hj
    match j, hj with
    | 0, _ => simpa using f0
    | 1, _ => simpa using f1
    | 2, _ => simpa using f2
    | (j + 3), h => exact absurd h (by simp only [List.length_cons, List.length_nil]; omega)
  · intro v hv
    simp at hv
    first | (subst hv; rfl) | (rcases hv with rfl | rfl <;> rfl) | (rcases hv with rfl | rfl | rfl <;> rfl) | (rcases hv with rfl | rfl | rfl | rfl <;> rfl)
theorem copy4 (W : World) (g b off cap : Nat) (v0 v1 v2 v3 : Int) (h0 : W.cell? ⟨b, off, none⟩ = some (.int .u64 v0)) (h1 : W.cell? ⟨b, off + 1, none⟩ = some (.int .u64 v1)) (h2 : W.cell? ⟨b, off + 2, none⟩ = some (.int .u64 v2)) (h3 : W.cell? ⟨b, off + 3, none⟩ = some (.int .u64 v3)) (c0 : (W.cell? ⟨g, 4, none⟩).isSome = true) (f0 : W.frozen? ⟨g, 4, none⟩ = false) (c1 : (W.cell? ⟨g, 5, none⟩).isSome = true) (f1 : W.frozen? ⟨g, 5, none⟩ = false) (c2 : (W.cell? ⟨g, 6, none⟩).isSome = true) (f2 : W.frozen? ⟨g, 6, none⟩ = false) (c3 : (W.cell? ⟨g, 7, none⟩).isSome = true) (f3 : W.frozen? ⟨g, 7, none⟩ = false) :
    Sem.run Tryd.prog (Builtin.copy_ #[67, 67] 3 #[.slice (some ⟨g, 4, none⟩) 4 4, .slice (some ⟨b, off, none⟩) 4 cap]) W = .ok (.int .i64 4) ((((W.setCell ⟨g, 4, none⟩ (.int .u64 v0)).setCell ⟨g, 5, none⟩ (.int .u64 v1)).setCell ⟨g, 6, none⟩ (.int .u64 v2)).setCell ⟨g, 7, none⟩ (.int .u64 v3)) := by
  have := run_copy_cells (P := Tryd.prog) W 67 67 3 22 g 4 4 4 ⟨b, off, none⟩ 4 cap [.int .u64 v0, .int .u64 v1, .int .u64 v2, .int .u64 v3] Tryd.underlying67 (by kernel_rfl) rfl ?_ ?_ ?_ ?_
  · exact this
  · intro j v
    match j, v with
    | 0, _ => intro h; cases h; simpa [Addr.add] using h0
    | 1, _ => intro h; cases h; simpa [Addr.add] using h1
    | 2, _ => intro h; cases h; simpa [Addr.add] using h2
    | 3, _ => intro h; cases h; simpa [Addr.add] using h3
    | (j + 4), _ => intro h; simp at h
  · intro j hj
    match j, hj with
    | 0, _ => simpa using c0
    | 1, _ => simpa using c1
    | 2, _ => simpa using c2
    | 3, _ => simpa using c3
    | (j + 4), h => exact absurd h (by simp only [List.length_cons, List.length_nil]; omega)
  · intro j hj
    match j, hj with
    | 0, _ => simpa using f0
    | 1, _ => simpa using f1
    | 2, _ => simpa using f2
    | 3, _ => simpa using f3
    | (j + 4), h => exact absurd h (by simp only [List.length_cons, List.length_nil]; omega)
  · intro v hv
    simp at hv
    first | (subst hv; rfl) | (rcases hv with rfl | rfl <;> rfl) | (rcases hv with rfl | rfl | rfl <;> rfl) | (rcases hv with rfl | rfl | rfl | rfl <;> rfl)
attribute [local irreducible] W4
section
variable (n : Int) (nm : ByteArray) (wd : Int) (f e : Nat) (l m : Int) (s : Bool) (x fl E : Int) (R : Nat) (z : Nat → Int) (w : World) (hT : Tab w)
include hT
set_option maxHeartbeats 1000000 in
theorem fin_n 
    (c56 : ∀ W, Tab W → Calls Tryd.prog 17 #[.int .i64 n, .agg #[.int .i64 1, .bool s, .bool false, .int .i64 x, .int .u64 0, .int .u64 0, .int .u64 0, .int .u64 0]] W fun r w' => r = .returned (.tuple #[A4 R, .int .i64 E]) ∧ Below W.heap.size W w') :
    Calls Tryd.prog 51 #[DI n nm wd f e l m, .bool s, .slice none 0 0, .int .i64 x, .int .i64 fl] w fun r w' => r = .returned (.tuple #[A4 R, .int .i64 fl, .int .i64 E]) ∧ Below w.heap.size w w' := by
  have hsm := cell_set_map
  skip
  have hcp := copy0
  go_enter Tryd.func51, Tryd.ntmps51
  go_wp2_with (go_at_call 17; refine (c56 _ (hT.go bgo)).mono ?_; rintro r w1 ⟨rfl, hb1⟩; obtain ⟨hc1, hf1⟩ := bcell hb1; have hz1_0 : w.heap.size < w1.heap.size := lt_below hb1 ltg; have hl1_0 := Nat.le_of_lt hz1_0; have hz1_1 : w.heap.size + 1 < w1.heap.size := lt_below hb1 ltg; have hl1_1 := Nat.le_of_lt hz1_1; have hz1_2 : w.heap.size + 2 < w1.heap.size := lt_below hb1 ltg; have hl1_2 := Nat.le_of_lt hz1_2; have hz1_3 : w.heap.size + 1 + 1 < w1.heap.size := lt_below hb1 ltg; have hl1_3 := Nat.le_of_lt hz1_3; have hA1 := bnext (w0 := w) bgo hb1; have hs1 := hA1.size; clear hb1)
  exact bodyPost_ret (v := .tuple #[A4 R, .int .i64 fl, .int .i64 E]) (by simp only [results, Tryd.results51]; go_simp) rfl ⟨rfl, bgo⟩
set_option maxHeartbeats 1000000 in
theorem fin_0 (b off cap : Nat) (hb : b < w.heap.size) 
    (c56 : ∀ W, Tab W → Calls Tryd.prog 17 #[.int .i64 n, .agg #[.int .i64 1, .bool s, .bool false, .int .i64 x, .int .u64 0, .int .u64 0, .int .u64 0, .int .u64 0]] W fun r w' => r = .returned (.tuple #[A4 R, .int .i64 E]) ∧ Below W.heap.size W w') :
    Calls Tryd.prog 51 #[DI n nm wd f e l m, .bool s, .slice (some ⟨b, off, none⟩) 0 cap, .int .i64 x, .int .i64 fl] w fun r w' => r = .returned (.tuple #[A4 R, .int .i64 fl, .int .i64 E]) ∧ Below w.heap.size w w' := by
  have hsm := cell_set_map
  skip
  have hcp := copy0
  go_enter Tryd.func51, Tryd.ntmps51
  go_wp2_with (go_at_call 17; refine (c56 _ (hT.go bgo)).mono ?_; rintro r w1 ⟨rfl, hb1⟩; obtain ⟨hc1, hf1⟩ := bcell hb1; have hz1_0 : w.heap.size < w1.heap.size := lt_below hb1 ltg; have hl1_0 := Nat.le_of_lt hz1_0; have hz1_1 : w.heap.size + 1 < w1.heap.size := lt_below hb1 ltg; have hl1_1 := Nat.le_of_lt hz1_1; have hz1_2 : w.heap.size + 2 < w1.heap.size := lt_below hb1 ltg; have hl1_2 := Nat.le_of_lt hz1_2; have hz1_3 : w.heap.size + 1 + 1 < w1.heap.size := lt_below hb1 ltg; have hl1_3 := Nat.le_of_lt hz1_3; have hA1 := bnext (w0 := w) bgo hb1; have hs1 := hA1.size; clear hb1)
  exact bodyPost_ret (v := .tuple #[A4 R, .int .i64 fl, .int .i64 E]) (by simp only [results, Tryd.results51]; go_simp) rfl ⟨rfl, bgo⟩
set_option maxHeartbeats 1000000 in
theorem fin_1 (b off cap : Nat) (hb : b < w.heap.size) (h0 : w.cell? ⟨b, off + 0, none⟩ = some (.int .u64 (z 0)))
    (c56 : ∀ W, Tab W → Calls Tryd.prog 17 #[.int .i64 n, .agg #[.int .i64 1, .bool s, .bool false, .int .i64 x, .int .u64 (z 0), .int .u64 0, .int .u64 0, .int .u64 0]] W fun r w' => r = .returned (.tuple #[A4 R, .int .i64 E]) ∧ Below W.heap.size W w') :
    Calls Tryd.prog 51 #[DI n nm wd f e l m, .bool s, .slice (some ⟨b, off, none⟩) 1 cap, .int .i64 x, .int .i64 fl] w fun r w' => r = .returned (.tuple #[A4 R, .int .i64 fl, .int .i64 E]) ∧ Below w.heap.size w w' := by
  have hsm := cell_set_map
  simp only [Nat.add_zero] at h0
  have hcp := copy1
  have e0 : b ≤ w.heap.size := by omega
  have e1 : b < w.heap.size + 1 := by omega
  have e2 : b < w.heap.size + 1 + 1 := by omega
  have e3 : b < w.heap.size + 2 := by omega
  have e4 : b ≤ w.heap.size + 1 := by omega
  have n0 : ¬ b = w.heap.size := by omega
  have n1 : ¬ b = w.heap.size + 1 := by omega
  have n2 : ¬ b = w.heap.size + 1 + 1 := by omega
  go_enter Tryd.func51, Tryd.ntmps51
  go_wp2_with (go_at_call 17; refine (c56 _ (hT.go bgo)).mono ?_; rintro r w1 ⟨rfl, hb1⟩; obtain ⟨hc1, hf1⟩ := bcell hb1; have hz1_0 : w.heap.size < w1.heap.size := lt_below hb1 ltg; have hl1_0 := Nat.le_of_lt hz1_0; have hz1_1 : w.heap.size + 1 < w1.heap.size := lt_below hb1 ltg; have hl1_1 := Nat.le_of_lt hz1_1; have hz1_2 : w.heap.size + 2 < w1.heap.size := lt_below hb1 ltg; have hl1_2 := Nat.le_of_lt hz1_2; have hz1_3 : w.heap.size + 1 + 1 < w1.heap.size := lt_below hb1 ltg; have hl1_3 := Nat.le_of_lt hz1_3; have hA1 := bnext (w0 := w) bgo hb1; have hs1 := hA1.size; clear hb1)
  exact bodyPost_ret (v := .tuple #[A4 R, .int .i64 fl, .int .i64 E]) (by simp only [results, Tryd.results51]; go_simp) rfl ⟨rfl, bgo⟩
set_option maxHeartbeats 1000000 in
theorem fin_2 (b off cap : Nat) (hb : b < w.heap.size) (h0 : w.cell? ⟨b, off + 0, none⟩ = some (.int .u64 (z 0))) (h1 : w.cell? ⟨b, off + 1, none⟩ = some (.int .u64 (z 1)))
    (c56 : ∀ W, Tab W → Calls Tryd.prog 17 #[.int .i64 n, .agg #[.int .i64 1, .bool s, .bool false, .int .i64 x, .int .u64 (z 0), .int .u64 (z 1), .int .u64 0, .int .u64 0]] W fun r w' => r = .returned (.tuple #[A4 R, .int .i64 E]) ∧ Below W.heap.size W w') :
    Calls Tryd.prog 51 #[DI n nm wd f e l m, .bool s, .slice (some ⟨b, off, none⟩) 2 cap, .int .i64 x, .int .i64 fl] w fun r w' => r = .returned (.tuple #[A4 R, .int .i64 fl, .int .i64 E]) ∧ Below w.heap.size w w' := by
  have hsm := cell_set_map
  simp only [Nat.add_zero] at h0
  have hcp := copy2
  have e0 : b ≤ w.heap.size := by omega
  have e1 : b < w.heap.size + 1 := by omega
  have e2 : b < w.heap.size + 1 + 1 := by omega
  have e3 : b < w.heap.size + 2 := by omega
  have e4 : b ≤ w.heap.size + 1 := by omega
  have n0 : ¬ b = w.heap.size := by omega
  have n1 : ¬ b = w.heap.size + 1 := by omega
  have n2 : ¬ b = w.heap.size + 1 + 1 := by omega
  go_enter Tryd.func51, Tryd.ntmps51
  go_wp2_with (go_at_call 17; refine (c56 _ (hT.go bgo)).mono ?_; rintro r w1 ⟨rfl, hb1⟩; obtain ⟨hc1, hf1⟩ := bcell hb1; have hz1_0 : w.heap.size < w1.heap.size := lt_below hb1 ltg; have hl1_0 := Nat.le_of_lt hz1_0; have hz1_1 : w.heap.size + 1 < w1.heap.size := lt_below hb1 ltg; have hl1_1 := Nat.le_of_lt hz1_1; have hz1_2 : w.heap.size + 2 < w1.heap.size := lt_below hb1 ltg; have hl1_2 := Nat.le_of_lt hz1_2; have hz1_3 : w.heap.size + 1 + 1 < w1.heap.size := lt_below hb1 ltg; have hl1_3 := Nat.le_of_lt hz1_3; have hA1 := bnext (w0 := w) bgo hb1; have hs1 := hA1.size; clear hb1)
  exact bodyPost_ret (v := .tuple #[A4 R, .int .i64 fl, .int .i64 E]) (by simp only [results, Tryd.results51]; go_simp) rfl ⟨rfl, bgo⟩
set_option maxHeartbeats 1000000 in
theorem fin_3 (b off cap : Nat) (hb : b < w.heap.size) (h0 : w.cell? ⟨b, off + 0, none⟩ = some (.int .u64 (z 0))) (h1 : w.cell? ⟨b, off + 1, none⟩ = some (.int .u64 (z 1))) (h2 : w.cell? ⟨b, off + 2, none⟩ = some (.int .u64 (z 2)))
    (c56 : ∀ W, Tab W → Calls Tryd.prog 17 #[.int .i64 n, .agg #[.int .i64 1, .bool s, .bool false, .int .i64 x, .int .u64 (z 0), .int .u64 (z 1), .int .u64 (z 2), .int .u64 0]] W fun r w' => r = .returned (.tuple #[A4 R, .int .i64 E]) ∧ Below W.heap.size W w') :
    Calls Tryd.prog 51 #[DI n nm wd f e l m, .bool s, .slice (some ⟨b, off, none⟩) 3 cap, .int .i64 x, .int .i64 fl] w fun r w' => r = .returned (.tuple #[A4 R, .int .i64 fl, .int .i64 E]) ∧ Below w.heap.size w w' := by
  have hsm := cell_set_map
  simp only [Nat.add_zero] at h0
  have hcp := copy3
  have e0 : b ≤ w.heap.size := by omega
  have e1 : b < w.heap.size + 1 := by omega
  have e2 : b < w.heap.size + 1 + 1 := by omega
  have e3 : b < w.heap.size + 2 := by omega
  have e4 : b ≤ w.heap.size + 1 := by omega
  have n0 : ¬ b = w.heap.size := by omega
  have n1 : ¬ b = w.heap.size + 1 := by omega
  have n2 : ¬ b = w.heap.size + 1 + 1 := by omega
  go_enter Tryd.func51, Tryd.ntmps51
  go_wp2_with (go_at_call 17; refine (c56 _ (hT.go bgo)).mono ?_; rintro r w1 ⟨rfl, hb1⟩; obtain ⟨hc1, hf1⟩ := bcell hb1; have hz1_0 : w.heap.size < w1.heap.size := lt_below hb1 ltg; have hl1_0 := Nat.le_of_lt hz1_0; have hz1_1 : w.heap.size + 1 < w1.heap.size := lt_below hb1 ltg; have hl1_1 := Nat.le_of_lt hz1_1; have hz1_2 : w.heap.size + 2 < w1.heap.size := lt_below hb1 ltg; have hl1_2 := Nat.le_of_lt hz1_2; have hz1_3 : w.heap.size + 1 + 1 < w1.heap.size := lt_below hb1 ltg; have hl1_3 := Nat.le_of_lt hz1_3; have hA1 := bnext (w0 := w) bgo hb1; have hs1 := hA1.size; clear hb1)
  exact bodyPost_ret (v := .tuple #[A4 R, .int .i64 fl, .int .i64 E]) (by simp only [results, Tryd.results51]; go_simp) rfl ⟨rfl, bgo⟩
set_option maxHeartbeats 1000000 in
theorem fin_4 (b off cap : Nat) (hb : b < w.heap.size) (h0 : w.cell? ⟨b, off + 0, none⟩ = some (.int .u64 (z 0))) (h1 : w.cell? ⟨b, off + 1, none⟩ = some (.int .u64 (z 1))) (h2 : w.cell? ⟨b, off + 2, none⟩ = some (.int .u64 (z 2))) (h3 : w.cell? ⟨b, off + 3, none⟩ = some (.int .u64 (z 3)))
    (c56 : ∀ W, Tab W → Calls Tryd.prog 17 #[.int .i64 n, .agg #[.int .i64 1, .bool s, .bool false, .int .i64 x, .int .u64 (z 0), .int .u64 (z 1), .int .u64 (z 2), .int .u64 (z 3)]] W fun r w' => r = .returned (.tuple #[A4 R, .int .i64 E]) ∧ Below W.heap.size W w') :
    Calls Tryd.prog 51 #[DI n nm wd f e l m, .bool s, .slice (some ⟨b, off, none⟩) 4 cap, .int .i64 x, .int .i64 fl] w fun r w' => r = .returned (.tuple #[A4 R, .int .i64 fl, .int .i64 E]) ∧ Below w.heap.size w w' := by
  have hsm := cell_set_map
  simp only [Nat.add_zero] at h0
  have hcp := copy4
  have e0 : b ≤ w.heap.size := by omega
  have e1 : b < w.heap.size + 1 := by omega
  have e2 : b < w.heap.size + 1 + 1 := by omega
  have e3 : b < w.heap.size + 2 := by omega
  have e4 : b ≤ w.heap.size + 1 := by omega
  have n0 : ¬ b = w.heap.size := by omega
  have n1 : ¬ b = w.heap.size + 1 := by omega
  have n2 : ¬ b = w.heap.size + 1 + 1 := by omega
  go_enter Tryd.func51, Tryd.ntmps51
  go_wp2_with (go_at_call 17; refine (c56 _ (hT.go bgo)).mono ?_; rintro r w1 ⟨rfl, hb1⟩; obtain ⟨hc1, hf1⟩ := bcell hb1; have hz1_0 : w.heap.size < w1.heap.size := lt_below hb1 ltg; have hl1_0 := Nat.le_of_lt hz1_0; have hz1_1 : w.heap.size + 1 < w1.heap.size := lt_below hb1 ltg; have hl1_1 := Nat.le_of_lt hz1_1; have hz1_2 : w.heap.size + 2 < w1.heap.size := lt_below hb1 ltg; have hl1_2 := Nat.le_of_lt hz1_2; have hz1_3 : w.heap.size + 1 + 1 < w1.heap.size := lt_below hb1 ltg; have hl1_3 := Nat.le_of_lt hz1_3; have hA1 := bnext (w0 := w) bgo hb1; have hs1 := hA1.size; clear hb1)
  exact bodyPost_ret (v := .tuple #[A4 R, .int .i64 fl, .int .i64 E]) (by simp only [results, Tryd.results51]; go_simp) rfl ⟨rfl, bgo⟩
end
end Go.Proofs.YtkefmapcaggefaaDoor
