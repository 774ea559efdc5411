/-
  What binary's packInfinite and packNaN do: contracts.
-/
import Derived.Test.YtemhpdhplbcgjaaDoorBp
import Derived.Test.YtemhpdhplbcgjaaDoorEq
set_option linter.unusedVariables false
set_option linter.unusedSectionVars false
set_option linter.unusedSimpArgs false
set_option maxRecDepth 20000
namespace Go.Proofs.YtemhpdhplbcgjaaDoor
open Go.RowKit

section
variable (f e : Nat) (l m : Int) (w : World) (c x : Int) (s : Bool) (k : Nat)
set_option maxHeartbeats 1000000 in
theorem packInf_g : Calls Tryd.prog 33 #[LV f e l m, DV c s true x k] w fun x w' => x = .returned (.tuple #[Z4, .int .i64 3]) ∧ Below w.heap.size w w' := by
  go_enter Tryd.func33, Tryd.ntmps33
  go_wp2
  have hsm := cell_set_map
  exact bodyPost_ret (v := .tuple #[Z4, .int .i64 3]) (by simp only [results, Tryd.results33]; go_simp) rfl ⟨rfl, by (repeat (first | with_reducible assumption | with_reducible exact Below.refl _ _ | with_reducible refine Below.setCell ?_ (by first | omega | (dsimp only; omega) | (simp <;> omega)) _ | with_reducible refine Below.alloc ?_ (by first | omega | (simp <;> omega)) _ | with_reducible refine Below.drew ?_))⟩
set_option maxHeartbeats 1000000 in
theorem packInf_x (hx : (x != 0) = true) : Calls Tryd.prog 33 #[LV f e l m, DV c s false x k] w fun x w' => x = .returned (.tuple #[Z4, .int .i64 3]) ∧ Below w.heap.size w w' := by
  go_enter Tryd.func33, Tryd.ntmps33
  go_wp2
  have hsm := cell_set_map
  exact bodyPost_ret (v := .tuple #[Z4, .int .i64 3]) (by simp only [results, Tryd.results33]; go_simp) rfl ⟨rfl, by (repeat (first | with_reducible assumption | with_reducible exact Below.refl _ _ | with_reducible refine Below.setCell ?_ (by first | omega | (dsimp only; omega) | (simp <;> omega)) _ | with_reducible refine Below.alloc ?_ (by first | omega | (simp <;> omega)) _ | with_reducible refine Below.drew ?_))⟩
set_option maxHeartbeats 1000000 in
theorem packInf_k (hk : decide (W4 k 0 = 0 ∧ W4 k 1 = 0 ∧ W4 k 2 = 0 ∧ W4 k 3 = 0) = false) : Calls Tryd.prog 33 #[LV f e l m, DV c s false 0 k] w fun x w' => x = .returned (.tuple #[Z4, .int .i64 3]) ∧ Below w.heap.size w w' := by
  have h24 := eq24 (W4 k 0) (W4 k 1) (W4 k 2) (W4 k 3) 0 0 0 0
  rw [hk] at h24
  clear hk
  go_enter Tryd.func33, Tryd.ntmps33
  go_wp2
  have hsm := cell_set_map
  exact bodyPost_ret (v := .tuple #[Z4, .int .i64 3]) (by simp only [results, Tryd.results33]; go_simp) rfl ⟨rfl, by (repeat (first | with_reducible assumption | with_reducible exact Below.refl _ _ | with_reducible refine Below.setCell ?_ (by first | omega | (dsimp only; omega) | (simp <;> omega)) _ | with_reducible refine Below.alloc ?_ (by first | omega | (simp <;> omega)) _ | with_reducible refine Below.drew ?_))⟩
set_option maxHeartbeats 1000000 in
theorem packInf_ok (sp : Int) (R : Nat)
    (c20 : ∀ w, Calls Tryd.prog 20 #[LV f e l m] w fun x w' => x = .returned (.int .u64 sp) ∧ Below w.heap.size w w')
    (c40 : ∀ w, Calls Tryd.prog 40 #[LV f e l m, .bool s, .int .u64 sp, Z4] w fun x w' => x = .returned (A4 R) ∧ Below w.heap.size w w') :
    Calls Tryd.prog 33 #[LV f e l m, .agg #[.int .i64 c, .bool s, .bool false, .int .i64 0, .int .u64 0, .int .u64 0, .int .u64 0, .int .u64 0]] w fun x w' => x = .returned (.tuple #[A4 R, .int .i64 0]) ∧ Below w.heap.size w w' := by
  have h24 := eq24 0 0 0 0 0 0 0 0
  rw [decide_eq_true (by decide)] at h24
  go_enter Tryd.func33, Tryd.ntmps33
  go_wp2
  refine wp_tail 7 (by kernel_rfl) (by kernel_rfl) (by kernel_rfl) (fun _ _ d _ _ h => by cases d <;> exact h) fun hne hcell => ?_
  simp only [List.take_succ_cons, List.take_zero, List.drop_succ_cons, List.drop_zero]
  repeat go_big_quiet_step (fail)
  go_big_quiet_step ((go_at_call 20; exact calls_wd _ bk_next (c20 _)))
  repeat go_big_quiet_step (fail)
  go_big_quiet_step ((go_at_call 40; exact calls_wd _ bk_next (c40 _)))
  refine wpQuiet_nil fun w1 hb1 => ?_
  obtain ⟨hc1, hf1⟩ := bcell hb1; have hz1_0 : w.heap.size < w1.heap.size := lt_below hb1 (by first | with_reducible assumption | (simp; done) | (simp; omega)); have hl1_0 := Nat.le_of_lt hz1_0; have hz1_1 : w.heap.size + 1 < w1.heap.size := lt_below hb1 (by first | with_reducible assumption | (simp; done) | (simp; omega)); have hl1_1 := Nat.le_of_lt hz1_1; have hz1_2 : w.heap.size + 1 + 1 < w1.heap.size := lt_below hb1 (by first | with_reducible assumption | (simp; done) | (simp; omega)); have hl1_2 := Nat.le_of_lt hz1_2; have hA1 := bnext (w0 := w) (by (repeat (first | with_reducible assumption | with_reducible exact Below.refl _ _ | with_reducible refine Below.setCell ?_ (by first | omega | (dsimp only; omega) | (simp <;> omega)) _ | with_reducible refine Below.alloc ?_ (by first | omega | (simp <;> omega)) _ | with_reducible refine Below.drew ?_))) hb1; have hs1 := hA1.size; clear hb1
  have hsm := cell_set_map
  go_wp2
  exact bodyPost_ret (v := .tuple #[A4 R, .int .i64 0]) (by simp only [results, Tryd.results33]; go_simp) rfl ⟨rfl, by (repeat (first | with_reducible assumption | with_reducible exact Below.refl _ _ | with_reducible refine Below.setCell ?_ (by first | omega | (dsimp only; omega) | (simp <;> omega)) _ | with_reducible refine Below.alloc ?_ (by first | omega | (simp <;> omega)) _ | with_reducible refine Below.drew ?_))⟩
end
end Go.Proofs.YtemhpdhplbcgjaaDoor
