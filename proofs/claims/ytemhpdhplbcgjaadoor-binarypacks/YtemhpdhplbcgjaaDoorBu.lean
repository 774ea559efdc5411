/-
  What binary's Unpack does: a contract.
-/
import Derived.Test.YtemhpdhplbcgjaaDoorBs
import Derived.Test.YtemhpdhplbcgjaaDoorFit
import Derived.Test.YtemhpdhplbcgjaaDoorQa
set_option linter.unusedVariables false
set_option linter.unusedSectionVars false
set_option linter.unusedSimpArgs false
set_option maxRecDepth 20000
namespace Go.Proofs.YtemhpdhplbcgjaaDoor
open Go.RowKit

theorem cell_set_map (W : World) (b i : Nat) (v : Value) : (W.setCell ⟨b, i, none⟩ v).cell? ⟨b, i, none⟩ = (W.cell? ⟨b, i, none⟩).map fun _ => v := by
  unfold World.cell? World.setCell
  simp only [Array.getElem?_modify, if_true]
  cases h : W.heap[b]? with
  | none => simp
  | some o =>
    cases o with
    | cells c e fr =>
      simp only [Option.map_some, Option.isSome_none, Bool.false_eq_true, if_false]
      by_cases hi : i < c.size
      · simp [hi]
      · simp [hi]
    | _ => simp
/-- a datum: class, sign, signal, exponent, coefficient -/
structure Dat where
  c : Int
  s : Bool
  g : Bool
  x : Int
  k : Nat
abbrev DV (c : Int) (s g : Bool) (x : Int) (k : Nat) : Value := .agg #[.int .i64 c, .bool s, .bool g, .int .i64 x, .int .u64 (W4 k 0), .int .u64 (W4 k 1), .int .u64 (W4 k 2), .int .u64 (W4 k 3)]
abbrev Dat.v (d : Dat) : Value := DV d.c d.s d.g d.x d.k
theorem W4_zero (i : Nat) : W4 0 i = 0 := by unfold W4; simp
/-- what the pattern with that fraction means, the exponent all ones -/
def spc (f : Nat) (s : Bool) (F : Nat) : Dat := if F = 0 then ⟨2, s, false, 0, 0⟩ else if F < 2 ^ (f - 1) then ⟨3, s, true, 0, F⟩ else ⟨3, s, false, 0, F - 2 ^ (f - 1)⟩

set_option maxHeartbeats 1000000 in
theorem special_zero (f e : Nat) (l m : Int) (s : Bool) (w : World) :
    Calls Tryd.prog 21 #[LV f e l m, .bool s, A4 0] w fun x w' => x = .returned (DV 2 s false 0 0) ∧ Below w.heap.size w w' := by
  have c46 := fun w => len4' 0 w
  rw [(len4_zero (A := 0) (by decide)).2 rfl] at c46
  unfold DV
  simp only [A4, W4_zero] at c46 ⊢
  go_enter Tryd.func21, Tryd.ntmps21
  go_wp2_with (go_at_call 46; refine (c46 _).mono ?_; rintro x w1 ⟨rfl, hb1⟩; obtain ⟨hc1, hf1⟩ := bcell hb1; have hz1_0 : w.heap.size < w1.heap.size := lt_below hb1 (by first | with_reducible assumption | (simp; done) | (simp; omega)); have hl1_0 := Nat.le_of_lt hz1_0; have hz1_1 : w.heap.size + 1 < w1.heap.size := lt_below hb1 (by first | with_reducible assumption | (simp; done) | (simp; omega)); have hl1_1 := Nat.le_of_lt hz1_1; have hz1_2 : w.heap.size + 1 + 1 < w1.heap.size := lt_below hb1 (by first | with_reducible assumption | (simp; done) | (simp; omega)); have hl1_2 := Nat.le_of_lt hz1_2; have hA1 := bnext (w0 := w) (by (repeat (first | with_reducible assumption | with_reducible exact Below.refl _ _ | with_reducible refine Below.setCell ?_ (by first | omega | (dsimp only; omega) | (simp <;> omega)) _ | with_reducible refine Below.alloc ?_ (by first | omega | (simp <;> omega)) _ | with_reducible refine Below.drew ?_))) hb1; have hs1 := hA1.size; clear hb1)
  have hsm := cell_set_map
  exact bodyPost_ret (v := .agg #[.int .i64 2, .bool s, .bool false, .int .i64 0, .int .u64 0, .int .u64 0, .int .u64 0, .int .u64 0]) (by simp only [results, Tryd.results21]; go_simp) rfl ⟨rfl, by (repeat (first | with_reducible assumption | with_reducible exact Below.refl _ _ | with_reducible refine Below.setCell ?_ (by first | omega | (dsimp only; omega) | (simp <;> omega)) _ | with_reducible refine Below.alloc ?_ (by first | omega | (simp <;> omega)) _ | with_reducible refine Below.drew ?_))⟩
set_option maxHeartbeats 1000000 in
theorem special_nan (f e : Nat) (l m : Int) (s : Bool) (F : Nat) (w : World) (h : Fm f e l m) (hF : F < 2 ^ 256) (h0 : F ≠ 0) :
    Calls Tryd.prog 21 #[LV f e l m, .bool s, A4 F] w fun x w' => x = .returned (if F < 2 ^ (f - 1) then DV 3 s true 0 F else DV 3 s false 0 (F - 2 ^ (f - 1))) ∧ Below w.heap.size w w' := by
  have hf2 := h.f2
  have hf240 := h.f240
  have c46 := fun w => len4' F w
  have hL : lenL (W4 F) 4 ≠ 0 := fun h1 => h0 ((len4_zero hF).1 h1)
  generalize lenL (W4 F) 4 = L at *
  have hLb : (L == 0) = false := by simpa using hL
  have c47 := fun w => quiet_any f e l m w h
  have c39 := fun w => sub4 F (2 ^ (f - 1)) w hF (Nat.pow_lt_pow_right (by decide) (by omega))
  clear h hF h0 hL hf2 hf240
  by_cases hlt : F < 2 ^ (f - 1)
  · rw [if_pos hlt]
    rw [if_pos hlt] at c39
    clear hlt
    generalize F + 2 ^ 256 - 2 ^ (f - 1) = Pl at *
    generalize 2 ^ (f - 1) = Qt at *
    go_enter Tryd.func21, Tryd.ntmps21
    go_wp2_with (go_at_call 46; refine (c46 _).mono ?_; rintro x w1 ⟨rfl, hb1⟩; obtain ⟨hc1, hf1⟩ := bcell hb1; have hz1_0 : w.heap.size < w1.heap.size := lt_below hb1 (by first | with_reducible assumption | (simp; done) | (simp; omega)); have hl1_0 := Nat.le_of_lt hz1_0; have hz1_1 : w.heap.size + 1 < w1.heap.size := lt_below hb1 (by first | with_reducible assumption | (simp; done) | (simp; omega)); have hl1_1 := Nat.le_of_lt hz1_1; have hz1_2 : w.heap.size + 1 + 1 < w1.heap.size := lt_below hb1 (by first | with_reducible assumption | (simp; done) | (simp; omega)); have hl1_2 := Nat.le_of_lt hz1_2; have hA1 := bnext (w0 := w) (by (repeat (first | with_reducible assumption | with_reducible exact Below.refl _ _ | with_reducible refine Below.setCell ?_ (by first | omega | (dsimp only; omega) | (simp <;> omega)) _ | with_reducible refine Below.alloc ?_ (by first | omega | (simp <;> omega)) _ | with_reducible refine Below.drew ?_))) hb1; have hs1 := hA1.size; clear hb1)
    refine wp_made 4 7 7 #[.int .u64 0, .int .u64 0, .int .u64 0, .int .u64 0] (by kernel_rfl) (by kernel_rfl) (by kernel_rfl) rfl (fun oa hoa a w => ?_) (by kernel_rfl) (by kernel_rfl) rfl rfl (fun _ _ d _ _ h => by cases d <;> exact h) ?_
    · cases hoa; exact ⟨23, by simp [go_sem]⟩
    apply Exists.intro
    refine ⟨fun al hne hcell => ?_, fun w2 hb2 => ?_, fun g w2 hb2 hg0 hg1 hg2 hg3 => ?_⟩
    · simp only [List.take_succ_cons, List.take_zero]
      repeat go_big_quiet_step (fail)
      go_big_quiet_step ((go_at_call 47; exact calls_wd _ al_next (c47 _)))
      repeat go_big_quiet_step (fail)
      go_big_quiet_step ((go_at_call 39; exact calls_wd _ al_next (c39 _)))
      exact wpQuiet_nil rfl
    · simp only [List.drop_succ_cons, List.drop_zero]
      obtain ⟨hc2, hf2⟩ := bcell hb2; have hz2_0 : w.heap.size < w2.heap.size := lt_below hb2 (by first | with_reducible assumption | (simp; done) | (simp; omega)); have hl2_0 := Nat.le_of_lt hz2_0; have hz2_1 : w.heap.size + 1 < w2.heap.size := lt_below hb2 (by first | with_reducible assumption | (simp; done) | (simp; omega)); have hl2_1 := Nat.le_of_lt hz2_1; have hz2_2 : w.heap.size + 1 + 1 < w2.heap.size := lt_below hb2 (by first | with_reducible assumption | (simp; done) | (simp; omega)); have hl2_2 := Nat.le_of_lt hz2_2; have hA2 := bnext (w0 := w) (by (repeat (first | with_reducible assumption | with_reducible exact Below.refl _ _ | with_reducible refine Below.setCell ?_ (by first | omega | (dsimp only; omega) | (simp <;> omega)) _ | with_reducible refine Below.alloc ?_ (by first | omega | (simp <;> omega)) _ | with_reducible refine Below.drew ?_))) hb2; have hs2 := hA2.size; clear hb2
      go_wp2
      have hsm := cell_set_map
      exact bodyPost_ret (v := DV 3 s true 0 F) (by simp only [results, Tryd.results21]; go_simp) rfl ⟨rfl, by (repeat (first | with_reducible assumption | with_reducible exact Below.refl _ _ | with_reducible refine Below.setCell ?_ (by first | omega | (dsimp only; omega) | (simp <;> omega)) _ | with_reducible refine Below.alloc ?_ (by first | omega | (simp <;> omega)) _ | with_reducible refine Below.drew ?_))⟩
    · simp only [List.drop_succ_cons, List.drop_zero, Nat.reduceSub, List.eraseIdx_cons_succ, List.eraseIdx_cons_zero]
      have hgw := hA1.size
      have hz0 : g ≠ w.heap.size := by omega
      have hz1 : g ≠ w.heap.size + 1 := by omega
      have hz2 : g ≠ w.heap.size + 1 + 1 := by omega
      obtain ⟨hc2, hf2⟩ := bcell hb2; have hz2_0 : w.heap.size < w2.heap.size := lt_below hb2 (by first | with_reducible assumption | (simp; done) | (simp; omega)); have hl2_0 := Nat.le_of_lt hz2_0; have hz2_1 : w.heap.size + 1 < w2.heap.size := lt_below hb2 (by first | with_reducible assumption | (simp; done) | (simp; omega)); have hl2_1 := Nat.le_of_lt hz2_1; have hz2_2 : w.heap.size + 1 + 1 < w2.heap.size := lt_below hb2 (by first | with_reducible assumption | (simp; done) | (simp; omega)); have hl2_2 := Nat.le_of_lt hz2_2; have hA2 := bnext (w0 := w) (by (repeat (first | with_reducible assumption | with_reducible exact Below.refl _ _ | with_reducible refine Below.setCell ?_ (by first | omega | (dsimp only; omega) | (simp <;> omega)) _ | with_reducible refine Below.alloc ?_ (by first | omega | (simp <;> omega)) _ | with_reducible refine Below.drew ?_))) hb2; have hs2 := hA2.size; clear hb2
      have hsm := cell_set_map
      go_wp2
      exact bodyPost_ret (v := DV 3 s true 0 F) (by simp only [results, Tryd.results21]; go_simp) rfl ⟨rfl, by (repeat (first | with_reducible assumption | with_reducible exact Below.refl _ _ | with_reducible refine Below.setCell ?_ (by first | omega | (dsimp only; omega) | (simp <;> omega)) _ | with_reducible refine Below.alloc ?_ (by first | omega | (simp <;> omega)) _ | with_reducible refine Below.drew ?_))⟩
  · rw [if_neg hlt]
    rw [if_neg hlt, A4_sub (by omega)] at c39
    clear hlt
    generalize F - 2 ^ (f - 1) = Pl at *
    generalize 2 ^ (f - 1) = Qt at *
    go_enter Tryd.func21, Tryd.ntmps21
    go_wp2_with (go_at_call 46; refine (c46 _).mono ?_; rintro x w1 ⟨rfl, hb1⟩; obtain ⟨hc1, hf1⟩ := bcell hb1; have hz1_0 : w.heap.size < w1.heap.size := lt_below hb1 (by first | with_reducible assumption | (simp; done) | (simp; omega)); have hl1_0 := Nat.le_of_lt hz1_0; have hz1_1 : w.heap.size + 1 < w1.heap.size := lt_below hb1 (by first | with_reducible assumption | (simp; done) | (simp; omega)); have hl1_1 := Nat.le_of_lt hz1_1; have hz1_2 : w.heap.size + 1 + 1 < w1.heap.size := lt_below hb1 (by first | with_reducible assumption | (simp; done) | (simp; omega)); have hl1_2 := Nat.le_of_lt hz1_2; have hA1 := bnext (w0 := w) (by (repeat (first | with_reducible assumption | with_reducible exact Below.refl _ _ | with_reducible refine Below.setCell ?_ (by first | omega | (dsimp only; omega) | (simp <;> omega)) _ | with_reducible refine Below.alloc ?_ (by first | omega | (simp <;> omega)) _ | with_reducible refine Below.drew ?_))) hb1; have hs1 := hA1.size; clear hb1)
    refine wp_made 4 7 7 #[.int .u64 0, .int .u64 0, .int .u64 0, .int .u64 0] (by kernel_rfl) (by kernel_rfl) (by kernel_rfl) rfl (fun oa hoa a w => ?_) (by kernel_rfl) (by kernel_rfl) rfl rfl (fun _ _ d _ _ h => by cases d <;> exact h) ?_
    · cases hoa; exact ⟨23, by simp [go_sem]⟩
    apply Exists.intro
    refine ⟨fun al hne hcell => ?_, fun w2 hb2 => ?_, fun g w2 hb2 hg0 hg1 hg2 hg3 => ?_⟩
    · simp only [List.take_succ_cons, List.take_zero]
      repeat go_big_quiet_step (fail)
      go_big_quiet_step ((go_at_call 47; exact calls_wd _ al_next (c47 _)))
      repeat go_big_quiet_step (fail)
      go_big_quiet_step ((go_at_call 39; exact calls_wd _ al_next (c39 _)))
      exact wpQuiet_nil rfl
    · simp only [List.drop_succ_cons, List.drop_zero]
      obtain ⟨hc2, hf2⟩ := bcell hb2; have hz2_0 : w.heap.size < w2.heap.size := lt_below hb2 (by first | with_reducible assumption | (simp; done) | (simp; omega)); have hl2_0 := Nat.le_of_lt hz2_0; have hz2_1 : w.heap.size + 1 < w2.heap.size := lt_below hb2 (by first | with_reducible assumption | (simp; done) | (simp; omega)); have hl2_1 := Nat.le_of_lt hz2_1; have hz2_2 : w.heap.size + 1 + 1 < w2.heap.size := lt_below hb2 (by first | with_reducible assumption | (simp; done) | (simp; omega)); have hl2_2 := Nat.le_of_lt hz2_2; have hA2 := bnext (w0 := w) (by (repeat (first | with_reducible assumption | with_reducible exact Below.refl _ _ | with_reducible refine Below.setCell ?_ (by first | omega | (dsimp only; omega) | (simp <;> omega)) _ | with_reducible refine Below.alloc ?_ (by first | omega | (simp <;> omega)) _ | with_reducible refine Below.drew ?_))) hb2; have hs2 := hA2.size; clear hb2
      go_wp2
      have hsm := cell_set_map
      exact bodyPost_ret (v := DV 3 s false 0 Pl) (by simp only [results, Tryd.results21]; go_simp) rfl ⟨rfl, by (repeat (first | with_reducible assumption | with_reducible exact Below.refl _ _ | with_reducible refine Below.setCell ?_ (by first | omega | (dsimp only; omega) | (simp <;> omega)) _ | with_reducible refine Below.alloc ?_ (by first | omega | (simp <;> omega)) _ | with_reducible refine Below.drew ?_))⟩
    · simp only [List.drop_succ_cons, List.drop_zero, Nat.reduceSub, List.eraseIdx_cons_succ, List.eraseIdx_cons_zero]
      have hgw := hA1.size
      have hz0 : g ≠ w.heap.size := by omega
      have hz1 : g ≠ w.heap.size + 1 := by omega
      have hz2 : g ≠ w.heap.size + 1 + 1 := by omega
      obtain ⟨hc2, hf2⟩ := bcell hb2; have hz2_0 : w.heap.size < w2.heap.size := lt_below hb2 (by first | with_reducible assumption | (simp; done) | (simp; omega)); have hl2_0 := Nat.le_of_lt hz2_0; have hz2_1 : w.heap.size + 1 < w2.heap.size := lt_below hb2 (by first | with_reducible assumption | (simp; done) | (simp; omega)); have hl2_1 := Nat.le_of_lt hz2_1; have hz2_2 : w.heap.size + 1 + 1 < w2.heap.size := lt_below hb2 (by first | with_reducible assumption | (simp; done) | (simp; omega)); have hl2_2 := Nat.le_of_lt hz2_2; have hA2 := bnext (w0 := w) (by (repeat (first | with_reducible assumption | with_reducible exact Below.refl _ _ | with_reducible refine Below.setCell ?_ (by first | omega | (dsimp only; omega) | (simp <;> omega)) _ | with_reducible refine Below.alloc ?_ (by first | omega | (simp <;> omega)) _ | with_reducible refine Below.drew ?_))) hb2; have hs2 := hA2.size; clear hb2
      have hsm := cell_set_map
      go_wp2
      exact bodyPost_ret (v := DV 3 s false 0 Pl) (by simp only [results, Tryd.results21]; go_simp) rfl ⟨rfl, by (repeat (first | with_reducible assumption | with_reducible exact Below.refl _ _ | with_reducible refine Below.setCell ?_ (by first | omega | (dsimp only; omega) | (simp <;> omega)) _ | with_reducible refine Below.alloc ?_ (by first | omega | (simp <;> omega)) _ | with_reducible refine Below.drew ?_))⟩
theorem special_spc (f e : Nat) (l m : Int) (s : Bool) (F : Nat) (w : World) (h : Fm f e l m) (hF : F < 2 ^ 256) :
    Calls Tryd.prog 21 #[LV f e l m, .bool s, A4 F] w fun x w' => x = .returned (spc f s F).v ∧ Below w.heap.size w w' := by
  unfold spc
  by_cases h0 : F = 0
  · subst h0
    rw [if_pos rfl]
    exact special_zero f e l m s w
  · rw [if_neg h0]
    refine (special_nan f e l m s F w h hF h0).mono ?_
    rintro x w' ⟨rfl, hb⟩
    refine ⟨?_, hb⟩
    split <;> rfl
end Go.Proofs.YtemhpdhplbcgjaaDoor
