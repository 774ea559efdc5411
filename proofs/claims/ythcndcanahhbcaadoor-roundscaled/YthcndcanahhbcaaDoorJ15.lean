/-
  Texts that the proof leans on, joined: Rs, Rt.
-/
import Derived.Test.YthcndcanahhbcaaDoorJ14
/-
  What the document's own Largest does: a contract.
-/
set_option linter.unusedVariables false
set_option linter.unusedSectionVars false
set_option linter.unusedSimpArgs false
set_option maxRecDepth 20000
namespace Go.Proofs.YthcndcanahhbcaaDoor
open Go.RowKit
attribute [local irreducible] W4 NT NV

set_option maxHeartbeats 20000000 in
theorem rlargest_ok (n : Int) (nm : ByteArray) (wd : Int) (f e P K R : Nat) (l m Er : Int) (s : Bool) (w : World) (hP : 1 ≤ P)
    (c35 : ∀ w, Calls Tryd.prog 18 #[.int .i64 n] w fun x w' => x = .returned (.bool true) ∧ w = w')
    (c25 : ∀ w, Calls Tryd.prog 47 #[.int .i64 n] w fun x w' => x = .returned (.tuple #[IV n nm wd f e l m, .int .i64 0]) ∧ Below w.heap.size w w')
    (c30 : ∀ w, Calls Tryd.prog 51 #[.int .u64 2, .int .i64 ((f : Int) + 1)] w fun x w' => ∃ v, x = .returned v ∧ NV K P v w' ∧ Below w.heap.size w w')
    (c41 : ∀ W v v', NV K P v W → NV 1 1 v' W → Calls Tryd.prog 20 #[v, v'] W fun e w' => ∃ r, e = .returned r ∧ NV (K + 1) (P - 1) r w' ∧ Below W.heap.size W w')
    (c13 : ∀ w, Calls Tryd.prog 66 #[.int .i64 n, DV 1 s false m (P - 1)] w fun r w' => r = .returned (.tuple #[A4 R, .int .i64 Er]) ∧ Below w.heap.size w w')
    : Calls Tryd.prog 72 #[.int .i64 n, .bool s] w fun x w' => x = .returned (.tuple #[A4 R, .int .i64 Er]) ∧ Below w.heap.size w w' := by
  have hsm := cell_set_map
  have hds : ∀ W : World, W.drew.heap.size = W.heap.size := fun W => by simp
  go_enter Tryd.func72, Tryd.ntmps72
  go_wp2_with (first
    | (go_at_call 18; refine (c35 _).mono ?_; rintro r w0 ⟨rfl, rfl⟩)
    | (go_at_call 47; refine (c25 _).mono ?_; rintro x w1 ⟨rfl, hb1⟩; obtain ⟨hc1, hf1⟩ := bcell hb1; have hz1_0 : w.heap.size < w1.heap.size := lt_below hb1 (by first | with_reducible assumption | (simp; done) | (simp; omega)); have hl1_0 := Nat.le_of_lt hz1_0; have hA1 := bnext (w0 := w) (by (repeat (first | with_reducible assumption | with_reducible exact Below.refl _ _ | with_reducible refine Below.setCell ?_ (by first | omega | (dsimp only; omega) | (simp <;> omega)) _ | with_reducible refine Below.alloc ?_ (by first | omega | (simp <;> omega)) _ | with_reducible refine Below.drew ?_))) hb1; have hs1 := hA1.size; clear hb1))
  have hm0 : w.heap.size < w1.heap.size + 1 + 1 := by omega
  have hm2 : w.heap.size < w1.heap.size + 2 := by omega
  go_region_with (first
    | (go_at_call 51; refine (c30 _).mono ?_; rintro r w3 ⟨v3, rfl, h3, hb3⟩; (try have hone : NV 1 1 (.slice (some ⟨w1.heap.size + 1, 0, none⟩) 1 1) w3 := (nv_one_drew (by simp) rfl (by decide)).next hb3); obtain ⟨hc3, hf3⟩ := bcell hb3; have hz3_0 : w.heap.size < w3.heap.size := lt_below hb3 (by first | with_reducible assumption | (simp; done) | (simp; omega)); have hl3_0 := Nat.le_of_lt hz3_0; have hz3_1 : w1.heap.size < w3.heap.size := lt_below hb3 (by first | with_reducible assumption | (simp; done) | (simp; omega)); have hl3_1 := Nat.le_of_lt hz3_1; have hA3 := bnext (w0 := w) (by (repeat (first | with_reducible assumption | with_reducible exact Below.refl _ _ | with_reducible refine Below.setCell ?_ (by first | omega | (dsimp only; omega) | (simp <;> omega)) _ | with_reducible refine Below.alloc ?_ (by first | omega | (simp <;> omega)) _ | with_reducible refine Below.drew ?_))) hb3; have hs3 := hA3.size; clear hb3)
    | (go_at_call 20; refine (c41 _ _ _ (by first | exact h3 | exact h3.next (by (repeat (first | with_reducible assumption | with_reducible exact Below.refl _ _ | with_reducible refine Below.setCell ?_ (by first | omega | (dsimp only; omega) | (simp <;> omega)) _ | with_reducible refine Below.alloc ?_ (by first | omega | (simp <;> omega)) _ | with_reducible refine Below.drew ?_)))) (by first | exact hone | exact nv_one (by simp) rfl (by decide))).mono ?_; rintro r w4 ⟨v4, rfl, h4, hb4⟩; obtain ⟨hc4, hf4⟩ := bcell hb4; have hz4_0 : w.heap.size < w4.heap.size := lt_below hb4 (by first | with_reducible assumption | (simp; done) | (simp; omega)); have hl4_0 := Nat.le_of_lt hz4_0; have hz4_1 : w1.heap.size < w4.heap.size := lt_below hb4 (by first | with_reducible assumption | (simp; done) | (simp; omega)); have hl4_1 := Nat.le_of_lt hz4_1; have hA4 := bnext (w0 := w) (by (repeat (first | with_reducible assumption | with_reducible exact Below.refl _ _ | with_reducible refine Below.setCell ?_ (by first | omega | (dsimp only; omega) | (simp <;> omega)) _ | with_reducible refine Below.alloc ?_ (by first | omega | (simp <;> omega)) _ | with_reducible refine Below.drew ?_))) hb4; have hs4 := hA4.size; clear hb4)
    | (go_at_call 50; refine (bits_nv h4).mono ?_; rintro r w5 ⟨rfl, hb5⟩; obtain ⟨hc5, hf5⟩ := bcell hb5; have hz5_0 : w.heap.size < w5.heap.size := lt_below hb5 (by first | with_reducible assumption | (simp; done) | (simp; omega)); have hl5_0 := Nat.le_of_lt hz5_0; have hz5_1 : w1.heap.size < w5.heap.size := lt_below hb5 (by first | with_reducible assumption | (simp; done) | (simp; omega)); have hl5_1 := Nat.le_of_lt hz5_1; have hA5 := bnext (w0 := w) (by (repeat (first | with_reducible assumption | with_reducible exact Below.refl _ _ | with_reducible refine Below.setCell ?_ (by first | omega | (dsimp only; omega) | (simp <;> omega)) _ | with_reducible refine Below.alloc ?_ (by first | omega | (simp <;> omega)) _ | with_reducible refine Below.drew ?_))) hb5; have hs5 := hA5.size; clear hb5)
    | (go_at_call 66; refine (c13 _).mono ?_; rintro r w6 ⟨rfl, hb6⟩; obtain ⟨hc6, hf6⟩ := bcell hb6; have hz6_0 : w.heap.size < w6.heap.size := lt_below hb6 (by first | with_reducible assumption | (simp; done) | (simp; omega)); have hl6_0 := Nat.le_of_lt hz6_0; have hz6_1 : w1.heap.size < w6.heap.size := lt_below hb6 (by first | with_reducible assumption | (simp; done) | (simp; omega)); have hl6_1 := Nat.le_of_lt hz6_1; have hA6 := bnext (w0 := w) (by (repeat (first | with_reducible assumption | with_reducible exact Below.refl _ _ | with_reducible refine Below.setCell ?_ (by first | omega | (dsimp only; omega) | (simp <;> omega)) _ | with_reducible refine Below.alloc ?_ (by first | omega | (simp <;> omega)) _ | with_reducible refine Below.drew ?_))) hb6; have hs6 := hA6.size; clear hb6))
  all_goals (
    go_wp2_with fail
    exact bodyPost_ret (v := .tuple #[A4 R, .int .i64 Er]) (by simp only [results, Tryd.results72]; go_simp) rfl ⟨rfl, by (repeat (first | with_reducible assumption | with_reducible exact Below.refl _ _ | with_reducible refine Below.setCell ?_ (by first | omega | (dsimp only; omega) | (simp <;> omega)) _ | with_reducible refine Below.alloc ?_ (by first | omega | (simp <;> omega)) _ | with_reducible refine Below.drew ?_))⟩)
end Go.Proofs.YthcndcanahhbcaaDoor

/-
  What the document's own Largest does: a contract.
-/
set_option linter.unusedVariables false
set_option linter.unusedSectionVars false
set_option linter.unusedSimpArgs false
set_option maxRecDepth 20000
namespace Go.Proofs.YthcndcanahhbcaaDoor
open Go.RowKit
theorem rless_wide {K K' A B : Nat} {v v' : Value} {w : World} (hK : K < 1000000) (hK' : K' < 1000000) (h : NV K A v w) (h' : NV K' B v' w) (hv : B ≤ A) :
    Calls Tryd.prog 20 #[v, v'] w fun e w' => ∃ r, e = .returned r ∧ NT (K + K') (A - B) r w' ∧ Below w.heap.size w w' := by
  obtain ⟨g, k, c, z, rfl, hk, hN, hz⟩ := h
  obtain ⟨g2, k2, c2, z2, rfl, hk2, hN2, hz2⟩ := h'
  refine (rless_tr _ _ k c k2 c2 z z2 w (by omega) (by omega) hN hN2).mono fun e w' ⟨g3, k3, cap3, e1, hk3, hN3, ht, hB⟩ => ⟨_, e1, ⟨g3, k3, cap3, _, rfl, by omega, hN3, ?_, ht⟩, hB⟩
  have ex := val_more hN.2.2.2.1 (max k k2) (by omega)
  have ey := val_more hN2.2.2.2.1 (max k k2) (by omega)
  have e := dif_val hN.2.2.1 hN2.2.2.1 (max k k2)
  rw [borW_end hN.2.2.1 hN2.2.2.1 (by omega), ex, ey] at e
  rw [← val_more hN3.2.2.2.1 _ hk3, val_congr (y := difW z z2) (max k k2) fun i hi => by unfold difZ; rw [if_pos hi]]
  omega
attribute [local irreducible] W4 NT NV

set_option maxHeartbeats 1000000 in
theorem rlargest_bad (n : Int) (s : Bool) (w : World) (h : ¬ binN n) :
    Calls Tryd.prog 72 #[.int .i64 n, .bool s] w fun x w' => x = .returned (.tuple #[Z4, .int .i64 1]) ∧ Below w.heap.size w w' := by
  have c35 := fun w => rbinary_any n w
  rw [decide_eq_false h] at c35
  have hsm := cell_set_map
  clear h
  go_enter Tryd.func72, Tryd.ntmps72
  go_wp2_with (go_at_call 18; refine (c35 _).mono ?_; rintro r w0 ⟨rfl, rfl⟩)
  exact bodyPost_ret (v := .tuple #[Z4, .int .i64 1]) (by simp only [results, Tryd.results72]; go_simp) rfl ⟨rfl, by (repeat (first | with_reducible assumption | with_reducible exact Below.refl _ _ | with_reducible refine Below.setCell ?_ (by first | omega | (dsimp only; omega) | (simp <;> omega)) _ | with_reducible refine Below.alloc ?_ (by first | omega | (simp <;> omega)) _ | with_reducible refine Below.drew ?_))⟩
theorem rlargest_any (n : Int) (s : Bool) (w : World) :
    Calls Tryd.prog 72 #[.int .i64 n, .bool s] w fun x w' => x = .returned (.tuple #[A4 (lgV n s), .int .i64 (lgE n)]) ∧ Below w.heap.size w w' := by
  by_cases hb : binN n
  · have hF := bin_fm hb
    have c25 := fun w => rof_bin hb w
    have c35 : ∀ w, Calls Tryd.prog 18 #[.int .i64 n] w fun x w' => x = .returned (.bool true) ∧ w = w' := fun w => by
      have := rbinary_any n w
      rw [decide_eq_true hb] at this
      exact this.mono fun _ _ ⟨h1, h2⟩ => ⟨h1, h2.symm⟩
    have hf := hF.f240
    have hp1 : 1 ≤ 2 ^ (fN n + 1) := Nat.one_le_two_pow
    have h256 : 2 ^ (fN n + 1) < 2 ^ 256 := Nat.pow_lt_pow_right (by decide) (by omega)
    have c30 := fun w => rpow_nv (fN n + 1) w (by omega)
    have c13 := fun w => rpack_any n ⟨1, s, false, mostN n, 2 ^ (fN n + 1) - 1⟩ w (by show 2 ^ (fN n + 1) - 1 < _; omega)
    have hpf : 2 ^ (fN n + 1) = 2 ^ fN n + 2 ^ fN n := by rw [Nat.pow_succ]; omega
    have hpp : 1 ≤ 2 ^ fN n := Nat.one_le_two_pow
    have hpc : ((2 : Int) ^ eN n) = ((2 ^ eN n : Nat) : Int) := by simp
    have hp := pow_e hF.e2 hF.e15
    have hm := hF.m
    rw [hpc] at hp hm
    have hi : isD (fN n) (leastN n) (mostN n) ⟨1, s, false, mostN n, 2 ^ (fN n + 1) - 1⟩ := Or.inl ⟨rfl, rfl, by show 2 ^ (fN n + 1) - 1 < _; omega, by show leastN n ≤ mostN n; omega, Int.le_refl _, Or.inl (by show 2 ^ fN n ≤ 2 ^ (fN n + 1) - 1; omega)⟩
    have e1 : pkE n ⟨1, s, false, mostN n, 2 ^ (fN n + 1) - 1⟩ = lgE n := by unfold pkE lgE; rw [if_pos hb, if_pos hi, if_pos hb]
    have e2 : pkV n ⟨1, s, false, mostN n, 2 ^ (fN n + 1) - 1⟩ = lgV n s := by
      unfold pkV lgV pk
      rw [if_pos ⟨hb, hi⟩, if_pos hb]
      dsimp only
      rw [if_pos rfl, show (mostN n - leastN n).toNat = 2 ^ eN n - 3 by omega]
      obtain ⟨q, hq⟩ : ∃ q, 2 ^ eN n = q + 3 := ⟨2 ^ eN n - 3, by omega⟩
      rw [hq, show q + 3 - 3 = q by omega, show q + 3 - 2 = q + 1 by omega, Nat.add_mul]
      omega
    rw [e1, e2] at c13
    refine rlargest_ok n _ _ _ _ _ _ _ _ _ _ s w hp1 c35 c25 c30 (fun W v v' h h' => ?_) c13
    exact (rless_wide (by decide) (by decide) h h' hp1).mono fun _ _ ⟨r, a1, a2, a3⟩ => ⟨r, a1, a2.nv, a3⟩
  · unfold lgV lgE
    rw [if_neg hb, if_neg hb, Z4_eq]
    exact rlargest_bad n s w hb
end Go.Proofs.YthcndcanahhbcaaDoor
