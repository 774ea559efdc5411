/-
  What binary's Pack, Largest and Quiet do: contracts.
-/
import Derived.Test.YtemhpdhplbcgjaaDoorBr
set_option linter.unusedVariables false
set_option linter.unusedSectionVars false
set_option linter.unusedSimpArgs false
set_option maxRecDepth 20000
namespace Go.Proofs.YtemhpdhplbcgjaaDoor
open Go.RowKit

set_option maxHeartbeats 1000000 in
theorem pack_bad (n : Int) (d : Dat) (w : World) (hT : Tab w) (h : ¬ binN n) :
    Calls Tryd.prog 12 #[.int .i64 n, d.v] w fun x w' => x = .returned (.tuple #[Z4, .int .i64 1]) ∧ Below w.heap.size w w' := by
  have c31 := fun w hT => layoutOf_bad n w hT h
  obtain ⟨c, s, g, x, k⟩ := d
  unfold Dat.v
  dsimp only
  go_enter Tryd.func12, Tryd.ntmps12
  go_wp2_with (go_at_call 31; refine (c31 _ ((hT.alloc _).alloc _)).mono ?_; rintro x w1 ⟨rfl, hb1⟩; obtain ⟨hc1, hf1⟩ := bcell hb1; have hz1_0 : w.heap.size < w1.heap.size := lt_below hb1 (by first | with_reducible assumption | (simp; done) | (simp; omega)); have hl1_0 := Nat.le_of_lt hz1_0; have hz1_1 : w.heap.size + 1 < w1.heap.size := lt_below hb1 (by first | with_reducible assumption | (simp; done) | (simp; omega)); have hl1_1 := Nat.le_of_lt hz1_1; have hA1 := bnext (w0 := w) (by (repeat (first | with_reducible assumption | with_reducible exact Below.refl _ _ | with_reducible refine Below.setCell ?_ (by first | omega | (dsimp only; omega) | (simp <;> omega)) _ | with_reducible refine Below.alloc ?_ (by first | omega | (simp <;> omega)) _ | with_reducible refine Below.drew ?_))) hb1; have hs1 := hA1.size; clear hb1)
  have hsm := cell_set_map
  exact bodyPost_ret (v := .tuple #[Z4, .int .i64 1]) (by simp only [results, Tryd.results12]; go_simp) rfl ⟨rfl, by (repeat (first | with_reducible assumption | with_reducible exact Below.refl _ _ | with_reducible refine Below.setCell ?_ (by first | omega | (dsimp only; omega) | (simp <;> omega)) _ | with_reducible refine Below.alloc ?_ (by first | omega | (simp <;> omega)) _ | with_reducible refine Below.drew ?_))⟩
section
variable (n : Int) (f e : Nat) (l m : Int) (w : World) (hT : Tab w) (c x : Int) (s g : Bool) (k : Nat)
  (c31 : ∀ w, Tab w → Calls Tryd.prog 31 #[.int .i64 n] w fun x w' => x = .returned (.tuple #[LV f e l m, .int .i64 0]) ∧ Below w.heap.size w w')
include hT c31
set_option maxHeartbeats 1000000 in
theorem pack_1 (R : Nat) (E : Int) (c32 : ∀ w, Calls Tryd.prog 32 #[LV f e l m, DV 1 s g x k] w fun x w' => x = .returned (.tuple #[A4 R, .int .i64 E]) ∧ Below w.heap.size w w') :
    Calls Tryd.prog 12 #[.int .i64 n, DV 1 s g x k] w fun x w' => x = .returned (.tuple #[A4 R, .int .i64 E]) ∧ Below w.heap.size w w' := by
  go_enter Tryd.func12, Tryd.ntmps12
  go_wp2_with (first
    | (go_at_call 31; refine (c31 _ ((hT.alloc _).alloc _)).mono ?_; rintro x w1 ⟨rfl, hb1⟩; obtain ⟨hc1, hf1⟩ := bcell hb1; have hz1_0 : w.heap.size < w1.heap.size := lt_below hb1 (by first | with_reducible assumption | (simp; done) | (simp; omega)); have hl1_0 := Nat.le_of_lt hz1_0; have hz1_1 : w.heap.size + 1 < w1.heap.size := lt_below hb1 (by first | with_reducible assumption | (simp; done) | (simp; omega)); have hl1_1 := Nat.le_of_lt hz1_1; have hA1 := bnext (w0 := w) (by (repeat (first | with_reducible assumption | with_reducible exact Below.refl _ _ | with_reducible refine Below.setCell ?_ (by first | omega | (dsimp only; omega) | (simp <;> omega)) _ | with_reducible refine Below.alloc ?_ (by first | omega | (simp <;> omega)) _ | with_reducible refine Below.drew ?_))) hb1; have hs1 := hA1.size; clear hb1)
    | (go_at_call 32; refine (c32 _).mono ?_; rintro x w2 ⟨rfl, hb2⟩; obtain ⟨hc2, hf2⟩ := bcell hb2; have hz2_0 : w.heap.size < w2.heap.size := lt_below hb2 (by first | with_reducible assumption | (simp; done) | (simp; omega)); have hl2_0 := Nat.le_of_lt hz2_0; have hz2_1 : w.heap.size + 1 < w2.heap.size := lt_below hb2 (by first | with_reducible assumption | (simp; done) | (simp; omega)); have hl2_1 := Nat.le_of_lt hz2_1; have hz2_2 : w1.heap.size < w2.heap.size := lt_below hb2 (by first | with_reducible assumption | (simp; done) | (simp; omega)); have hl2_2 := Nat.le_of_lt hz2_2; have hA2 := bnext (w0 := w) (by (repeat (first | with_reducible assumption | with_reducible exact Below.refl _ _ | with_reducible refine Below.setCell ?_ (by first | omega | (dsimp only; omega) | (simp <;> omega)) _ | with_reducible refine Below.alloc ?_ (by first | omega | (simp <;> omega)) _ | with_reducible refine Below.drew ?_))) hb2; have hs2 := hA2.size; clear hb2))
  have hsm := cell_set_map
  exact bodyPost_ret (v := .tuple #[A4 R, .int .i64 E]) (by simp only [results, Tryd.results12]; go_simp) rfl ⟨rfl, by (repeat (first | with_reducible assumption | with_reducible exact Below.refl _ _ | with_reducible refine Below.setCell ?_ (by first | omega | (dsimp only; omega) | (simp <;> omega)) _ | with_reducible refine Below.alloc ?_ (by first | omega | (simp <;> omega)) _ | with_reducible refine Below.drew ?_))⟩
set_option maxHeartbeats 1000000 in
theorem pack_2 (R : Nat) (E : Int) (c33 : ∀ w, Calls Tryd.prog 33 #[LV f e l m, DV 2 s g x k] w fun x w' => x = .returned (.tuple #[A4 R, .int .i64 E]) ∧ Below w.heap.size w w') :
    Calls Tryd.prog 12 #[.int .i64 n, DV 2 s g x k] w fun x w' => x = .returned (.tuple #[A4 R, .int .i64 E]) ∧ Below w.heap.size w w' := by
  go_enter Tryd.func12, Tryd.ntmps12
  go_wp2_with (first
    | (go_at_call 31; refine (c31 _ ((hT.alloc _).alloc _)).mono ?_; rintro x w1 ⟨rfl, hb1⟩; obtain ⟨hc1, hf1⟩ := bcell hb1; have hz1_0 : w.heap.size < w1.heap.size := lt_below hb1 (by first | with_reducible assumption | (simp; done) | (simp; omega)); have hl1_0 := Nat.le_of_lt hz1_0; have hz1_1 : w.heap.size + 1 < w1.heap.size := lt_below hb1 (by first | with_reducible assumption | (simp; done) | (simp; omega)); have hl1_1 := Nat.le_of_lt hz1_1; have hA1 := bnext (w0 := w) (by (repeat (first | with_reducible assumption | with_reducible exact Below.refl _ _ | with_reducible refine Below.setCell ?_ (by first | omega | (dsimp only; omega) | (simp <;> omega)) _ | with_reducible refine Below.alloc ?_ (by first | omega | (simp <;> omega)) _ | with_reducible refine Below.drew ?_))) hb1; have hs1 := hA1.size; clear hb1)
    | (go_at_call 33; refine (c33 _).mono ?_; rintro x w2 ⟨rfl, hb2⟩; obtain ⟨hc2, hf2⟩ := bcell hb2; have hz2_0 : w.heap.size < w2.heap.size := lt_below hb2 (by first | with_reducible assumption | (simp; done) | (simp; omega)); have hl2_0 := Nat.le_of_lt hz2_0; have hz2_1 : w.heap.size + 1 < w2.heap.size := lt_below hb2 (by first | with_reducible assumption | (simp; done) | (simp; omega)); have hl2_1 := Nat.le_of_lt hz2_1; have hz2_2 : w1.heap.size < w2.heap.size := lt_below hb2 (by first | with_reducible assumption | (simp; done) | (simp; omega)); have hl2_2 := Nat.le_of_lt hz2_2; have hA2 := bnext (w0 := w) (by (repeat (first | with_reducible assumption | with_reducible exact Below.refl _ _ | with_reducible refine Below.setCell ?_ (by first | omega | (dsimp only; omega) | (simp <;> omega)) _ | with_reducible refine Below.alloc ?_ (by first | omega | (simp <;> omega)) _ | with_reducible refine Below.drew ?_))) hb2; have hs2 := hA2.size; clear hb2))
  have hsm := cell_set_map
  exact bodyPost_ret (v := .tuple #[A4 R, .int .i64 E]) (by simp only [results, Tryd.results12]; go_simp) rfl ⟨rfl, by (repeat (first | with_reducible assumption | with_reducible exact Below.refl _ _ | with_reducible refine Below.setCell ?_ (by first | omega | (dsimp only; omega) | (simp <;> omega)) _ | with_reducible refine Below.alloc ?_ (by first | omega | (simp <;> omega)) _ | with_reducible refine Below.drew ?_))⟩
set_option maxHeartbeats 1000000 in
theorem pack_3 (R : Nat) (E : Int) (c34 : ∀ w, Calls Tryd.prog 34 #[LV f e l m, DV 3 s g x k] w fun x w' => x = .returned (.tuple #[A4 R, .int .i64 E]) ∧ Below w.heap.size w w') :
    Calls Tryd.prog 12 #[.int .i64 n, DV 3 s g x k] w fun x w' => x = .returned (.tuple #[A4 R, .int .i64 E]) ∧ Below w.heap.size w w' := by
  go_enter Tryd.func12, Tryd.ntmps12
  go_wp2_with (first
    | (go_at_call 31; refine (c31 _ ((hT.alloc _).alloc _)).mono ?_; rintro x w1 ⟨rfl, hb1⟩; obtain ⟨hc1, hf1⟩ := bcell hb1; have hz1_0 : w.heap.size < w1.heap.size := lt_below hb1 (by first | with_reducible assumption | (simp; done) | (simp; omega)); have hl1_0 := Nat.le_of_lt hz1_0; have hz1_1 : w.heap.size + 1 < w1.heap.size := lt_below hb1 (by first | with_reducible assumption | (simp; done) | (simp; omega)); have hl1_1 := Nat.le_of_lt hz1_1; have hA1 := bnext (w0 := w) (by (repeat (first | with_reducible assumption | with_reducible exact Below.refl _ _ | with_reducible refine Below.setCell ?_ (by first | omega | (dsimp only; omega) | (simp <;> omega)) _ | with_reducible refine Below.alloc ?_ (by first | omega | (simp <;> omega)) _ | with_reducible refine Below.drew ?_))) hb1; have hs1 := hA1.size; clear hb1)
    | (go_at_call 34; refine (c34 _).mono ?_; rintro x w2 ⟨rfl, hb2⟩; obtain ⟨hc2, hf2⟩ := bcell hb2; have hz2_0 : w.heap.size < w2.heap.size := lt_below hb2 (by first | with_reducible assumption | (simp; done) | (simp; omega)); have hl2_0 := Nat.le_of_lt hz2_0; have hz2_1 : w.heap.size + 1 < w2.heap.size := lt_below hb2 (by first | with_reducible assumption | (simp; done) | (simp; omega)); have hl2_1 := Nat.le_of_lt hz2_1; have hz2_2 : w1.heap.size < w2.heap.size := lt_below hb2 (by first | with_reducible assumption | (simp; done) | (simp; omega)); have hl2_2 := Nat.le_of_lt hz2_2; have hA2 := bnext (w0 := w) (by (repeat (first | with_reducible assumption | with_reducible exact Below.refl _ _ | with_reducible refine Below.setCell ?_ (by first | omega | (dsimp only; omega) | (simp <;> omega)) _ | with_reducible refine Below.alloc ?_ (by first | omega | (simp <;> omega)) _ | with_reducible refine Below.drew ?_))) hb2; have hs2 := hA2.size; clear hb2))
  have hsm := cell_set_map
  exact bodyPost_ret (v := .tuple #[A4 R, .int .i64 E]) (by simp only [results, Tryd.results12]; go_simp) rfl ⟨rfl, by (repeat (first | with_reducible assumption | with_reducible exact Below.refl _ _ | with_reducible refine Below.setCell ?_ (by first | omega | (dsimp only; omega) | (simp <;> omega)) _ | with_reducible refine Below.alloc ?_ (by first | omega | (simp <;> omega)) _ | with_reducible refine Below.drew ?_))⟩
set_option maxHeartbeats 1000000 in
theorem pack_0 (h1 : (c == 1) = false) (h2 : (c == 2) = false) (h3 : (c == 3) = false) :
    Calls Tryd.prog 12 #[.int .i64 n, DV c s g x k] w fun x w' => x = .returned (.tuple #[Z4, .int .i64 3]) ∧ Below w.heap.size w w' := by
  go_enter Tryd.func12, Tryd.ntmps12
  go_wp2_with (go_at_call 31; refine (c31 _ ((hT.alloc _).alloc _)).mono ?_; rintro x w1 ⟨rfl, hb1⟩; obtain ⟨hc1, hf1⟩ := bcell hb1; have hz1_0 : w.heap.size < w1.heap.size := lt_below hb1 (by first | with_reducible assumption | (simp; done) | (simp; omega)); have hl1_0 := Nat.le_of_lt hz1_0; have hz1_1 : w.heap.size + 1 < w1.heap.size := lt_below hb1 (by first | with_reducible assumption | (simp; done) | (simp; omega)); have hl1_1 := Nat.le_of_lt hz1_1; have hA1 := bnext (w0 := w) (by (repeat (first | with_reducible assumption | with_reducible exact Below.refl _ _ | with_reducible refine Below.setCell ?_ (by first | omega | (dsimp only; omega) | (simp <;> omega)) _ | with_reducible refine Below.alloc ?_ (by first | omega | (simp <;> omega)) _ | with_reducible refine Below.drew ?_))) hb1; have hs1 := hA1.size; clear hb1)
  have hsm := cell_set_map
  exact bodyPost_ret (v := .tuple #[Z4, .int .i64 3]) (by simp only [results, Tryd.results12]; go_simp) rfl ⟨rfl, by (repeat (first | with_reducible assumption | with_reducible exact Below.refl _ _ | with_reducible refine Below.setCell ?_ (by first | omega | (dsimp only; omega) | (simp <;> omega)) _ | with_reducible refine Below.alloc ?_ (by first | omega | (simp <;> omega)) _ | with_reducible refine Below.drew ?_))⟩
set_option maxHeartbeats 1000000 in
theorem largest_ok (hf : f ≤ 240) (P1 P0 Fr R : Nat) (cr sp : Int) (hsp : 1 ≤ sp ∧ sp ≤ 1000000)
    (c23 : ∀ w, Calls Tryd.prog 23 #[.int .i64 f] w fun x w' => x = .returned (A4 P1) ∧ Below w.heap.size w w')
    (c230 : ∀ w, Calls Tryd.prog 23 #[.int .i64 0] w fun x w' => x = .returned (A4 P0) ∧ Below w.heap.size w w')
    (c39 : ∀ w, Calls Tryd.prog 39 #[A4 P1, A4 P0] w fun x w' => x = .returned (.tuple #[A4 Fr, .int .u64 cr]) ∧ Below w.heap.size w w')
    (c20 : ∀ w, Calls Tryd.prog 20 #[LV f e l m] w fun x w' => x = .returned (.int .u64 sp) ∧ Below w.heap.size w w')
    (c40 : ∀ w, Calls Tryd.prog 40 #[LV f e l m, .bool s, .int .u64 (sp - 1), A4 Fr] w fun x w' => x = .returned (A4 R) ∧ Below w.heap.size w w') :
    Calls Tryd.prog 14 #[.int .i64 n, .bool s] w fun x w' => x = .returned (.tuple #[A4 R, .int .i64 0]) ∧ Below w.heap.size w w' := by
  go_enter Tryd.func14, Tryd.ntmps14
  go_wp2_with (first
    | (go_at_call 31; refine (c31 _ (hT.alloc _)).mono ?_; rintro x w1 ⟨rfl, hb1⟩; obtain ⟨hc1, hf1⟩ := bcell hb1; have hz1_0 : w.heap.size < w1.heap.size := lt_below hb1 (by first | with_reducible assumption | (simp; done) | (simp; omega)); have hl1_0 := Nat.le_of_lt hz1_0; have hA1 := bnext (w0 := w) (by (repeat (first | with_reducible assumption | with_reducible exact Below.refl _ _ | with_reducible refine Below.setCell ?_ (by first | omega | (dsimp only; omega) | (simp <;> omega)) _ | with_reducible refine Below.alloc ?_ (by first | omega | (simp <;> omega)) _ | with_reducible refine Below.drew ?_))) hb1; have hs1 := hA1.size; clear hb1)
    | (go_at_call 23; refine (c23 _).mono ?_; rintro x w2 ⟨rfl, hb2⟩; obtain ⟨hc2, hf2⟩ := bcell hb2; have hz2_0 : w.heap.size < w2.heap.size := lt_below hb2 (by first | with_reducible assumption | (simp; done) | (simp; omega)); have hl2_0 := Nat.le_of_lt hz2_0; have hz2_1 : w1.heap.size < w2.heap.size := lt_below hb2 (by first | with_reducible assumption | (simp; done) | (simp; omega)); have hl2_1 := Nat.le_of_lt hz2_1; have hA2 := bnext (w0 := w) (by (repeat (first | with_reducible assumption | with_reducible exact Below.refl _ _ | with_reducible refine Below.setCell ?_ (by first | omega | (dsimp only; omega) | (simp <;> omega)) _ | with_reducible refine Below.alloc ?_ (by first | omega | (simp <;> omega)) _ | with_reducible refine Below.drew ?_))) hb2; have hs2 := hA2.size; clear hb2)
    | (go_at_call 23; refine (c230 _).mono ?_; rintro x w3 ⟨rfl, hb3⟩; obtain ⟨hc3, hf3⟩ := bcell hb3; have hz3_0 : w.heap.size < w3.heap.size := lt_below hb3 (by first | with_reducible assumption | (simp; done) | (simp; omega)); have hl3_0 := Nat.le_of_lt hz3_0; have hz3_1 : w1.heap.size < w3.heap.size := lt_below hb3 (by first | with_reducible assumption | (simp; done) | (simp; omega)); have hl3_1 := Nat.le_of_lt hz3_1; have hA3 := bnext (w0 := w) (by (repeat (first | with_reducible assumption | with_reducible exact Below.refl _ _ | with_reducible refine Below.setCell ?_ (by first | omega | (dsimp only; omega) | (simp <;> omega)) _ | with_reducible refine Below.alloc ?_ (by first | omega | (simp <;> omega)) _ | with_reducible refine Below.drew ?_))) hb3; have hs3 := hA3.size; clear hb3)
    | (go_at_call 39; refine (c39 _).mono ?_; rintro x w4 ⟨rfl, hb4⟩; obtain ⟨hc4, hf4⟩ := bcell hb4; have hz4_0 : w.heap.size < w4.heap.size := lt_below hb4 (by first | with_reducible assumption | (simp; done) | (simp; omega)); have hl4_0 := Nat.le_of_lt hz4_0; have hz4_1 : w1.heap.size < w4.heap.size := lt_below hb4 (by first | with_reducible assumption | (simp; done) | (simp; omega)); have hl4_1 := Nat.le_of_lt hz4_1; have hA4 := bnext (w0 := w) (by (repeat (first | with_reducible assumption | with_reducible exact Below.refl _ _ | with_reducible refine Below.setCell ?_ (by first | omega | (dsimp only; omega) | (simp <;> omega)) _ | with_reducible refine Below.alloc ?_ (by first | omega | (simp <;> omega)) _ | with_reducible refine Below.drew ?_))) hb4; have hs4 := hA4.size; clear hb4))
  refine wp_tail 7 (by kernel_rfl) (by kernel_rfl) (by kernel_rfl) (fun _ _ d _ _ h => by cases d <;> exact h) fun hne hcell => ?_
  simp only [List.take_succ_cons, List.take_zero, List.drop_succ_cons, List.drop_zero]
  repeat go_big_quiet_step (fail)
  go_big_quiet_step ((go_at_call 20; exact calls_wd _ bk_next (c20 _)))
  repeat go_big_quiet_step (fail)
  go_big_quiet_step ((go_at_call 40; exact calls_wd _ bk_next (c40 _)))
  refine wpQuiet_nil fun w5 hb5 => ?_
  obtain ⟨hc5, hf5⟩ := bcell hb5; have hz5_0 : w.heap.size < w5.heap.size := lt_below hb5 (by first | with_reducible assumption | (simp; done) | (simp; omega)); have hl5_0 := Nat.le_of_lt hz5_0; have hz5_1 : w1.heap.size < w5.heap.size := lt_below hb5 (by first | with_reducible assumption | (simp; done) | (simp; omega)); have hl5_1 := Nat.le_of_lt hz5_1; have hz5_2 : w4.heap.size < w5.heap.size := lt_below hb5 (by first | with_reducible assumption | (simp; done) | (simp; omega)); have hl5_2 := Nat.le_of_lt hz5_2; have hA5 := bnext (w0 := w) (by (repeat (first | with_reducible assumption | with_reducible exact Below.refl _ _ | with_reducible refine Below.setCell ?_ (by first | omega | (dsimp only; omega) | (simp <;> omega)) _ | with_reducible refine Below.alloc ?_ (by first | omega | (simp <;> omega)) _ | with_reducible refine Below.drew ?_))) hb5; have hs5 := hA5.size; clear hb5
  have hsm := cell_set_map
  go_wp2
  exact bodyPost_ret (v := .tuple #[A4 R, .int .i64 0]) (by simp only [results, Tryd.results14]; go_simp) rfl ⟨rfl, by (repeat (first | with_reducible assumption | with_reducible exact Below.refl _ _ | with_reducible refine Below.setCell ?_ (by first | omega | (dsimp only; omega) | (simp <;> omega)) _ | with_reducible refine Below.alloc ?_ (by first | omega | (simp <;> omega)) _ | with_reducible refine Below.drew ?_))⟩
end
set_option maxHeartbeats 1000000 in
theorem largest_bad (n : Int) (s : Bool) (w : World) (hT : Tab w) (h : ¬ binN n) :
    Calls Tryd.prog 14 #[.int .i64 n, .bool s] w fun x w' => x = .returned (.tuple #[Z4, .int .i64 1]) ∧ Below w.heap.size w w' := by
  have c31 := fun w hT => layoutOf_bad n w hT h
  go_enter Tryd.func14, Tryd.ntmps14
  go_wp2_with (go_at_call 31; refine (c31 _ (hT.alloc _)).mono ?_; rintro x w1 ⟨rfl, hb1⟩; obtain ⟨hc1, hf1⟩ := bcell hb1; have hz1_0 : w.heap.size < w1.heap.size := lt_below hb1 (by first | with_reducible assumption | (simp; done) | (simp; omega)); have hl1_0 := Nat.le_of_lt hz1_0; have hA1 := bnext (w0 := w) (by (repeat (first | with_reducible assumption | with_reducible exact Below.refl _ _ | with_reducible refine Below.setCell ?_ (by first | omega | (dsimp only; omega) | (simp <;> omega)) _ | with_reducible refine Below.alloc ?_ (by first | omega | (simp <;> omega)) _ | with_reducible refine Below.drew ?_))) hb1; have hs1 := hA1.size; clear hb1)
  have hsm := cell_set_map
  exact bodyPost_ret (v := .tuple #[Z4, .int .i64 1]) (by simp only [results, Tryd.results14]; go_simp) rfl ⟨rfl, by (repeat (first | with_reducible assumption | with_reducible exact Below.refl _ _ | with_reducible refine Below.setCell ?_ (by first | omega | (dsimp only; omega) | (simp <;> omega)) _ | with_reducible refine Below.alloc ?_ (by first | omega | (simp <;> omega)) _ | with_reducible refine Below.drew ?_))⟩

/-- what Pack answers: the pattern, and the error's number -/
def pkV (n : Int) (d : Dat) : Nat := if binN n ∧ isD (fN n) (leastN n) (mostN n) d then pk (fN n) (eN n) (leastN n) d else 0
def pkE (n : Int) (d : Dat) : Int := if binN n then (if isD (fN n) (leastN n) (mostN n) d then 0 else 3) else 1
theorem pack_any (n : Int) (d : Dat) (w : World) (hT : Tab w) (hk : d.k < 2 ^ 256) :
    Calls Tryd.prog 12 #[.int .i64 n, d.v] w fun x w' => x = .returned (.tuple #[A4 (pkV n d), .int .i64 (pkE n d)]) ∧ Below w.heap.size w w' := by
  by_cases hb : binN n
  · have hF := bin_fm hb
    have c31 := fun w hT => layoutOf_ok n w hT hb
    have key : ∀ d : Dat, Value.tuple #[A4 (pkV n d), .int .i64 (pkE n d)] = if isD (fN n) (leastN n) (mostN n) d then .tuple #[A4 (pk (fN n) (eN n) (leastN n) d), .int .i64 0] else .tuple #[Z4, .int .i64 3] := fun d => by
      unfold pkV pkE
      by_cases hi : isD (fN n) (leastN n) (mostN n) d
      · rw [if_pos ⟨hb, hi⟩, if_pos hb, if_pos hi, if_pos hi]
      · rw [if_neg (fun h => hi h.2), if_pos hb, if_neg hi, if_neg hi, Z4_eq]
    obtain ⟨c, s, g, x, k⟩ := d
    unfold Dat.v
    dsimp only at hk ⊢
    by_cases h1 : c = 1
    · subst h1
      have c32 := fun w => packFinite_any (fN n) (eN n) (leastN n) (mostN n) w s g x k hF hk
      simp only [← key] at c32
      exact pack_1 n _ _ _ _ w hT x s g k c31 _ _ c32
    · by_cases h2 : c = 2
      · subst h2
        have c33 := fun w => packInfinite_any (fN n) (eN n) (leastN n) (mostN n) w s g x k hF hk
        simp only [← key] at c33
        exact pack_2 n _ _ _ _ w hT x s g k c31 _ _ c33
      · by_cases h3 : c = 3
        · subst h3
          have c34 := fun w => packNaN_any (fN n) (eN n) (leastN n) (mostN n) w s g x k hF hk
          simp only [← key] at c34
          exact pack_3 n _ _ _ _ w hT x s g k c31 _ _ c34
        · rw [key, if_neg (by unfold isD; simp [h1, h2, h3])]
          exact pack_0 n _ _ _ _ w hT c x s g k c31 (by simpa using h1) (by simpa using h2) (by simpa using h3)
  · have e1 : pkV n d = 0 := if_neg fun h => hb h.1
    have e2 : pkE n d = 1 := if_neg hb
    rw [e1, e2, Z4_eq]
    exact pack_bad n d w hT hb
def lgV (n : Int) (s : Bool) : Nat := if binN n then (2 ^ eN n - 2) * 2 ^ fN n + (2 ^ fN n - 1) + (if s then 2 ^ (fN n + eN n) else 0) else 0
def lgE (n : Int) : Int := if binN n then 0 else 1
theorem largest_any (n : Int) (s : Bool) (w : World) (hT : Tab w) :
    Calls Tryd.prog 14 #[.int .i64 n, .bool s] w fun x w' => x = .returned (.tuple #[A4 (lgV n s), .int .i64 (lgE n)]) ∧ Below w.heap.size w w' := by
  unfold lgV lgE
  by_cases hb : binN n
  · have hF := bin_fm hb
    rw [if_pos hb, if_pos hb]
    have hf := hF.f240
    have hp := pow_e hF.e2 hF.e15
    have hpc : ((2 : Int) ^ eN n) = ((2 ^ eN n : Nat) : Int) := by simp
    rw [hpc] at hp
    have hp1 : 1 ≤ 2 ^ fN n := Nat.one_le_two_pow
    have hp2 : 2 ^ fN n ≤ 2 ^ (fN n + 1) := Nat.pow_le_pow_right (by decide) (by omega)
    have h256 : 2 ^ fN n < 2 ^ 256 := Nat.pow_lt_pow_right (by decide) (by omega)
    have c39 := fun w => sub4 (2 ^ fN n) (2 ^ 0) w h256 (by decide)
    rw [A4_sub (show 2 ^ 0 ≤ 2 ^ fN n from hp1), if_neg (show ¬ 2 ^ fN n < 2 ^ 0 by omega)] at c39
    have c40 := fun w => join_any (fN n) (eN n) (leastN n) (mostN n) s (2 ^ eN n - 2) (2 ^ fN n - 1) w hF (by omega) (by omega)
    rw [show ((2 ^ eN n - 2 : Nat) : Int) = ((2 ^ eN n - 1 : Nat) : Int) - 1 by omega] at c40
    have c230 := fun w => power_any 0 w (by decide)
    exact largest_ok n _ _ _ _ w hT s (fun w hT => layoutOf_ok n w hT hb) hf _ _ _ _ _ _ (by omega) (fun w => power_any (fN n) w (by omega)) c230 c39 (fun w => special_any _ _ _ _ w hF) c40
  · rw [if_neg hb, if_neg hb, Z4_eq]
    exact largest_bad n s w hT hb

/-- what Unpack answers -/
def unD (n : Int) (B : Nat) : Dat := if goodN n B then unp (fN n) (eN n) (leastN n) B else ⟨0, false, false, 0, 0⟩
def unE (n : Int) (B : Nat) : Int := if goodN n B then 0 else 1
theorem unpack_any (n : Int) (B : Nat) (w : World) (hT : Tab w) (hB : B < 2 ^ 256) :
    Calls Tryd.prog 10 #[.int .i64 n, A4 B] w fun x w' => x = .returned (.tuple #[(unD n B).v, .int .i64 (unE n B)]) ∧ Below w.heap.size w w' := by
  unfold unD unE
  by_cases h : goodN n B
  · rw [if_pos h, if_pos h]; exact unpack_ok n B w hT hB h
  · rw [if_neg h, if_neg h]; exact unpack_bad n B w hT hB h
end Go.Proofs.YtemhpdhplbcgjaaDoor
