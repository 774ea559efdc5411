/-
  Texts that the proof leans on, joined: Td.
-/
import Derived.Test.YthcndcanahhbcaaDoorJ18
import Derived.Test.YthcndcanahhbcaaDoorJ19
import Derived.Test.YthcndcanahhbcaaDoorJ21
/-
  What the law RoundKeeps does: it returns true.
-/
set_option linter.unusedVariables false
set_option linter.unusedSectionVars false
set_option linter.unusedSimpArgs false
set_option maxRecDepth 20000
namespace Go.Proofs.YthcndcanahhbcaaDoor
open Go.RowKit

theorem nv_cell {W : World} {g V : Nat} {vi : Int} (hc : W.cell? ⟨g, 0, none⟩ = some (.int .u64 vi)) (hg : g < W.heap.size) (hv : vi = (V : Int)) (hb : V < 18446744073709551616) : NV 1 V (.slice (some ⟨g, 0, none⟩) 1 1) W := by
  subst hv
  have h := num_one W (V : Int) (by omega)
  refine ⟨g, 1, 1, oneW V, rfl, Nat.le_refl _, ⟨h.1, h.2.1, h.2.2.1, h.2.2.2.1, Or.inr ⟨g, 0, rfl, hg, fun i hi => ?_⟩⟩, val_one1 V⟩
  obtain rfl : i = 0 := by omega
  rw [Nat.add_zero, hc]; rfl
theorem times_four {W : World} {g o V F K : Nat} {v : Value} (h : Four W g o V) (hg : g < W.heap.size) (hV : V < 2 ^ 256) (hK : K < 1000) (hv : NV K F v W) :
    Calls Tryd.prog 17 #[.slice (some ⟨g, o, none⟩) 4 4, v] W fun e w' => ∃ r, e = .returned r ∧ NT (K + 5) (V * F) r w' ∧ Below W.heap.size W w' := by
  obtain ⟨g2, k2, c2, z2, rfl, hk2, hN2, hz2⟩ := hv
  refine (times_tr g o 4 4 g2 0 k2 c2 _ z2 W (by decide) (by omega) (four_n6 h hg) hN2).mono fun e w' ⟨g3, k3, cap3, z3, e1, hk3, hN3, hv3, hB, ht⟩ => ⟨_, e1, ⟨g3, k3, cap3, z3, rfl, by omega, hN3, ?_, ht⟩, hB⟩
  rw [← val_more hN3.2.2.2.1 _ hk3, hv3, four_v6 hV, hz2]; simp
attribute [local irreducible] W4 NT NV Nt
section
variable (n d z : Int) (B : Nat) (w : World) (hT : Tab w)
include hT
set_option maxHeartbeats 2000000 in
theorem keeps_e (c q E : Int) (s g : Bool) (k : Nat) (b : Bool) (h : (E != 0) = true ∨ ((E != 0) = false ∧ (c != 1) = true) ∨ ((E != 0) = false ∧ (c != 1) = false ∧ b = false))
    (c15 : ∀ W, Tab W → Calls Tryd.prog 15 #[.int .i64 n, A4 B] W fun r w' => r = .returned (.tuple #[DV c s g q k, .int .i64 E]) ∧ Below W.heap.size W w')
    (c16 : ∀ W, Calls Tryd.prog 16 #[.int .i64 d] W fun r w' => r = .returned (.bool b) ∧ W = w') :
    Calls Tryd.prog 5 #[.int .i64 n, A4 B, .int .i64 d, .int .u64 z] w fun r w' => r = .returned (.bool true) ∧ Below w.heap.size w w' := by
  have c9 := awake6
  have hsm := cell_set_map
  rcases h with h | ⟨h, h1⟩ | ⟨h, h1, rfl⟩
  · go_enter Tryd.func5, Tryd.ntmps5
    go_wp2_with (first | (go_at_call 9; refine (c9 _ (hT.go (by (repeat (first | with_reducible assumption | with_reducible exact Below.refl _ _ | with_reducible refine Below.setCell ?_ (by first | omega | (dsimp only; omega) | (simp <;> omega)) _ | with_reducible refine Below.alloc ?_ (by first | omega | (simp <;> omega)) _ | with_reducible refine Below.drew ?_))))).mono ?_; rintro r w1 ⟨rfl, hb1⟩; obtain ⟨hc1, hf1⟩ := bcell hb1; have hz1_0 : w.heap.size < w1.heap.size := lt_below hb1 (by first | with_reducible assumption | (simp; done) | (simp; omega)); have hl1_0 := Nat.le_of_lt hz1_0; have hA1 := bnext (w0 := w) (by (repeat (first | with_reducible assumption | with_reducible exact Below.refl _ _ | with_reducible refine Below.setCell ?_ (by first | omega | (dsimp only; omega) | (simp <;> omega)) _ | with_reducible refine Below.alloc ?_ (by first | omega | (simp <;> omega)) _ | with_reducible refine Below.drew ?_))) hb1; have hs1 := hA1.size; clear hb1) | (go_at_call 15; refine (c15 _ (hT.go (by (repeat (first | with_reducible assumption | with_reducible exact Below.refl _ _ | with_reducible refine Below.setCell ?_ (by first | omega | (dsimp only; omega) | (simp <;> omega)) _ | with_reducible refine Below.alloc ?_ (by first | omega | (simp <;> omega)) _ | with_reducible refine Below.drew ?_))))).mono ?_; rintro r w2 ⟨rfl, hb2⟩; obtain ⟨hc2, hf2⟩ := bcell hb2; have hz2_0 : w.heap.size < w2.heap.size := lt_below hb2 (by first | with_reducible assumption | (simp; done) | (simp; omega)); have hl2_0 := Nat.le_of_lt hz2_0; have hA2 := bnext (w0 := w) (by (repeat (first | with_reducible assumption | with_reducible exact Below.refl _ _ | with_reducible refine Below.setCell ?_ (by first | omega | (dsimp only; omega) | (simp <;> omega)) _ | with_reducible refine Below.alloc ?_ (by first | omega | (simp <;> omega)) _ | with_reducible refine Below.drew ?_))) hb2; have hs2 := hA2.size; clear hb2))
    go_ret
    exact ⟨rfl, by (repeat (first | with_reducible assumption | with_reducible exact Below.refl _ _ | with_reducible refine Below.setCell ?_ (by first | omega | (dsimp only; omega) | (simp <;> omega)) _ | with_reducible refine Below.alloc ?_ (by first | omega | (simp <;> omega)) _ | with_reducible refine Below.drew ?_))⟩
  · go_enter Tryd.func5, Tryd.ntmps5
    go_wp2_with (first | (go_at_call 9; refine (c9 _ (hT.go (by (repeat (first | with_reducible assumption | with_reducible exact Below.refl _ _ | with_reducible refine Below.setCell ?_ (by first | omega | (dsimp only; omega) | (simp <;> omega)) _ | with_reducible refine Below.alloc ?_ (by first | omega | (simp <;> omega)) _ | with_reducible refine Below.drew ?_))))).mono ?_; rintro r w1 ⟨rfl, hb1⟩; obtain ⟨hc1, hf1⟩ := bcell hb1; have hz1_0 : w.heap.size < w1.heap.size := lt_below hb1 (by first | with_reducible assumption | (simp; done) | (simp; omega)); have hl1_0 := Nat.le_of_lt hz1_0; have hA1 := bnext (w0 := w) (by (repeat (first | with_reducible assumption | with_reducible exact Below.refl _ _ | with_reducible refine Below.setCell ?_ (by first | omega | (dsimp only; omega) | (simp <;> omega)) _ | with_reducible refine Below.alloc ?_ (by first | omega | (simp <;> omega)) _ | with_reducible refine Below.drew ?_))) hb1; have hs1 := hA1.size; clear hb1) | (go_at_call 15; refine (c15 _ (hT.go (by (repeat (first | with_reducible assumption | with_reducible exact Below.refl _ _ | with_reducible refine Below.setCell ?_ (by first | omega | (dsimp only; omega) | (simp <;> omega)) _ | with_reducible refine Below.alloc ?_ (by first | omega | (simp <;> omega)) _ | with_reducible refine Below.drew ?_))))).mono ?_; rintro r w2 ⟨rfl, hb2⟩; obtain ⟨hc2, hf2⟩ := bcell hb2; have hz2_0 : w.heap.size < w2.heap.size := lt_below hb2 (by first | with_reducible assumption | (simp; done) | (simp; omega)); have hl2_0 := Nat.le_of_lt hz2_0; have hA2 := bnext (w0 := w) (by (repeat (first | with_reducible assumption | with_reducible exact Below.refl _ _ | with_reducible refine Below.setCell ?_ (by first | omega | (dsimp only; omega) | (simp <;> omega)) _ | with_reducible refine Below.alloc ?_ (by first | omega | (simp <;> omega)) _ | with_reducible refine Below.drew ?_))) hb2; have hs2 := hA2.size; clear hb2))
    go_ret
    exact ⟨rfl, by (repeat (first | with_reducible assumption | with_reducible exact Below.refl _ _ | with_reducible refine Below.setCell ?_ (by first | omega | (dsimp only; omega) | (simp <;> omega)) _ | with_reducible refine Below.alloc ?_ (by first | omega | (simp <;> omega)) _ | with_reducible refine Below.drew ?_))⟩
  · go_enter Tryd.func5, Tryd.ntmps5
    go_wp2_with (first | (go_at_call 9; refine (c9 _ (hT.go (by (repeat (first | with_reducible assumption | with_reducible exact Below.refl _ _ | with_reducible refine Below.setCell ?_ (by first | omega | (dsimp only; omega) | (simp <;> omega)) _ | with_reducible refine Below.alloc ?_ (by first | omega | (simp <;> omega)) _ | with_reducible refine Below.drew ?_))))).mono ?_; rintro r w1 ⟨rfl, hb1⟩; obtain ⟨hc1, hf1⟩ := bcell hb1; have hz1_0 : w.heap.size < w1.heap.size := lt_below hb1 (by first | with_reducible assumption | (simp; done) | (simp; omega)); have hl1_0 := Nat.le_of_lt hz1_0; have hA1 := bnext (w0 := w) (by (repeat (first | with_reducible assumption | with_reducible exact Below.refl _ _ | with_reducible refine Below.setCell ?_ (by first | omega | (dsimp only; omega) | (simp <;> omega)) _ | with_reducible refine Below.alloc ?_ (by first | omega | (simp <;> omega)) _ | with_reducible refine Below.drew ?_))) hb1; have hs1 := hA1.size; clear hb1) | (go_at_call 15; refine (c15 _ (hT.go (by (repeat (first | with_reducible assumption | with_reducible exact Below.refl _ _ | with_reducible refine Below.setCell ?_ (by first | omega | (dsimp only; omega) | (simp <;> omega)) _ | with_reducible refine Below.alloc ?_ (by first | omega | (simp <;> omega)) _ | with_reducible refine Below.drew ?_))))).mono ?_; rintro r w2 ⟨rfl, hb2⟩; obtain ⟨hc2, hf2⟩ := bcell hb2; have hz2_0 : w.heap.size < w2.heap.size := lt_below hb2 (by first | with_reducible assumption | (simp; done) | (simp; omega)); have hl2_0 := Nat.le_of_lt hz2_0; have hA2 := bnext (w0 := w) (by (repeat (first | with_reducible assumption | with_reducible exact Below.refl _ _ | with_reducible refine Below.setCell ?_ (by first | omega | (dsimp only; omega) | (simp <;> omega)) _ | with_reducible refine Below.alloc ?_ (by first | omega | (simp <;> omega)) _ | with_reducible refine Below.drew ?_))) hb2; have hs2 := hA2.size; clear hb2) | (go_at_call 16; refine (c16 _).mono ?_; rintro r w3 ⟨rfl, rfl⟩))
    go_ret
    exact ⟨rfl, by (repeat (first | with_reducible assumption | with_reducible exact Below.refl _ _ | with_reducible refine Below.setCell ?_ (by first | omega | (dsimp only; omega) | (simp <;> omega)) _ | with_reducible refine Below.alloc ?_ (by first | omega | (simp <;> omega)) _ | with_reducible refine Below.drew ?_))⟩
set_option maxHeartbeats 20000000 in
theorem keeps_k (q : Int) (s : Bool) (k F : Nat) (hz : 0 ≤ z ∧ z ≤ 18446744073709551615) (hF : z / 2 + 1 = (F : Int))
    (c15 : ∀ W, Tab W → Calls Tryd.prog 15 #[.int .i64 n, A4 B] W fun r w' => r = .returned (.tuple #[DV 1 s false q k, .int .i64 0]) ∧ Below W.heap.size W w')
    (c16 : ∀ W, Calls Tryd.prog 16 #[.int .i64 d] W fun r w' => r = .returned (.bool true) ∧ W = w')
    (c17 : ∀ W g v, Four W g 4 k → g < W.heap.size → NV 1 F v W → Calls Tryd.prog 17 #[.slice (some ⟨g, 4, none⟩) 4 4, v] W fun e w' => ∃ r, e = .returned r ∧ NT (1 + 5) (k * F) r w' ∧ Below W.heap.size W w')
    (c11 : ∀ W v v', Tab W → NT (1 + 5) (k * F) v W → NV 1 F v' W → Calls Tryd.prog 11 #[.int .i64 n, .int .i64 d, .bool s, v, v', .int .i64 q] W fun r w' => r = .returned (.tuple #[A4 B, .int .i64 0, .int .i64 0]) ∧ Below W.heap.size W w')
    (c13 : ∀ W, Tab W → Calls Tryd.prog 13 #[.int .i64 n, .int .i64 d, .bool s, A4 k, .int .i64 q] W fun r w' => r = .returned (.tuple #[A4 B, .int .i64 0, .int .i64 0]) ∧ Below W.heap.size W w') :
    Calls Tryd.prog 5 #[.int .i64 n, A4 B, .int .i64 d, .int .u64 z] w fun r w' => r = .returned (.bool true) ∧ Below w.heap.size w w' := by
  have c9 := awake6
  have hsm := cell_set_map
  have hds : ∀ W : World, W.drew.heap.size = W.heap.size := fun W => by simp
  have hself := A4_self B
  go_enter Tryd.func5, Tryd.ntmps5
  go_upto_region 7 with (first | (go_at_call 9; refine (c9 _ (hT.go (by (repeat (first | with_reducible assumption | with_reducible exact Below.refl _ _ | with_reducible refine Below.setCell ?_ (by first | omega | (dsimp only; omega) | (simp <;> omega)) _ | with_reducible refine Below.alloc ?_ (by first | omega | (simp <;> omega)) _ | with_reducible refine Below.drew ?_))))).mono ?_; rintro r w1 ⟨rfl, hb1⟩; obtain ⟨hc1, hf1⟩ := bcell hb1; have hz1_0 : w.heap.size < w1.heap.size := lt_below hb1 (by first | with_reducible assumption | (simp; done) | (simp; omega)); have hl1_0 := Nat.le_of_lt hz1_0; have hA1 := bnext (w0 := w) (by (repeat (first | with_reducible assumption | with_reducible exact Below.refl _ _ | with_reducible refine Below.setCell ?_ (by first | omega | (dsimp only; omega) | (simp <;> omega)) _ | with_reducible refine Below.alloc ?_ (by first | omega | (simp <;> omega)) _ | with_reducible refine Below.drew ?_))) hb1; have hs1 := hA1.size; clear hb1) | (go_at_call 15; refine (c15 _ (hT.go (by (repeat (first | with_reducible assumption | with_reducible exact Below.refl _ _ | with_reducible refine Below.setCell ?_ (by first | omega | (dsimp only; omega) | (simp <;> omega)) _ | with_reducible refine Below.alloc ?_ (by first | omega | (simp <;> omega)) _ | with_reducible refine Below.drew ?_))))).mono ?_; rintro r w2 ⟨rfl, hb2⟩; obtain ⟨hc2, hf2⟩ := bcell hb2; have hz2_0 : w.heap.size < w2.heap.size := lt_below hb2 (by first | with_reducible assumption | (simp; done) | (simp; omega)); have hl2_0 := Nat.le_of_lt hz2_0; have hA2 := bnext (w0 := w) (by (repeat (first | with_reducible assumption | with_reducible exact Below.refl _ _ | with_reducible refine Below.setCell ?_ (by first | omega | (dsimp only; omega) | (simp <;> omega)) _ | with_reducible refine Below.alloc ?_ (by first | omega | (simp <;> omega)) _ | with_reducible refine Below.drew ?_))) hb2; have hs2 := hA2.size; clear hb2) | (go_at_call 16; refine (c16 _).mono ?_; rintro r w3 ⟨rfl, rfl⟩))
  go_cut [12, 13, 14] from 18 (fun t12 t13 t14 wc => ∃ g, t12 = .pointer (some ⟨g, 0, none⟩) ∧ t13 = .int .i64 0 ∧ t14 = .int .i64 0 ∧ Four wc g 0 B ∧ Four wc w.heap.size 0 B ∧ Four wc w2.heap.size 4 k ∧ wc.cell? ⟨w2.heap.size, 1, none⟩ = some (.bool s) ∧ wc.cell? ⟨w2.heap.size, 3, none⟩ = some (.int .i64 q) ∧ Below w.heap.size w wc ∧ g < wc.heap.size ∧ w2.heap.size < wc.heap.size)
  case first =>
    have hm0 : w.heap.size < w2.heap.size + 1 + 1 := by omega
    have hm1 : w.heap.size < w2.heap.size + 2 := by omega
    have hm2 : w.heap.size < w2.heap.size + 1 + 1 + 1 := by omega
    have hm3 : w.heap.size < w2.heap.size + 3 := by omega
    have hm4 : w.heap.size < w2.heap.size + 1 := by omega
    have hm5 : w.heap.size < w2.heap.size + 2 + 1 := by omega
    go_region_with (first
      | (go_at_call 17; refine (c17 _ _ _ (.of (by go_simp) (by go_simp) (by go_simp) (by go_simp)) (by first | assumption | (simp; done) | (simp; omega)) (nv_cell (vi := (F : Int)) (by go_simp) (by first | assumption | (simp; done) | (simp; omega)) rfl (by omega))).mono ?_; rintro r w4 ⟨v4, rfl, h4, hb4⟩; (try (have hy4_0 : w2.heap.size + 1 + 1 < w4.heap.size := lt_below hb4 (by first | with_reducible assumption | (simp; done) | (simp; omega)); have hyl4_0 := Nat.le_of_lt hy4_0)); obtain ⟨hc4, hf4⟩ := bcell hb4; have hz4_0 : w.heap.size < w4.heap.size := lt_below hb4 (by first | with_reducible assumption | (simp; done) | (simp; omega)); have hl4_0 := Nat.le_of_lt hz4_0; have hz4_1 : w2.heap.size < w4.heap.size := lt_below hb4 (by first | with_reducible assumption | (simp; done) | (simp; omega)); have hl4_1 := Nat.le_of_lt hz4_1; have hz4_2 : w2.heap.size + 1 < w4.heap.size := lt_below hb4 (by first | with_reducible assumption | (simp; done) | (simp; omega)); have hl4_2 := Nat.le_of_lt hz4_2; have hA4 := bnext (w0 := w) (by (repeat (first | with_reducible assumption | with_reducible exact Below.refl _ _ | with_reducible refine Below.setCell ?_ (by first | omega | (dsimp only; omega) | (simp <;> omega)) _ | with_reducible refine Below.alloc ?_ (by first | omega | (simp <;> omega)) _ | with_reducible refine Below.drew ?_))) hb4; have hs4 := hA4.size; clear hb4)
      | (go_at_call 11; refine (c11 _ _ _ (hT.go (by (repeat (first | with_reducible assumption | with_reducible exact Below.refl _ _ | with_reducible refine Below.setCell ?_ (by first | omega | (dsimp only; omega) | (simp <;> omega)) _ | with_reducible refine Below.alloc ?_ (by first | omega | (simp <;> omega)) _ | with_reducible refine Below.drew ?_)))) (by first | exact h4 | exact h4.next (by (repeat (first | with_reducible assumption | with_reducible exact Below.refl _ _ | with_reducible refine Below.setCell ?_ (by first | omega | (dsimp only; omega) | (simp <;> omega)) _ | with_reducible refine Below.alloc ?_ (by first | omega | (simp <;> omega)) _ | with_reducible refine Below.drew ?_)))) (nv_cell (vi := (F : Int)) (by go_simp) (by first | assumption | (simp; done) | (simp; omega)) rfl (by omega))).mono ?_; rintro r w5 ⟨rfl, hb5⟩; (try (have hy5_0 : w2.heap.size + 1 + 1 < w5.heap.size := lt_below hb5 (by first | with_reducible assumption | (simp; done) | (simp; omega)); have hyl5_0 := Nat.le_of_lt hy5_0)); (try (have hy5_1 : w4.heap.size < w5.heap.size := lt_below hb5 (by first | with_reducible assumption | (simp; done) | (simp; omega)); have hyl5_1 := Nat.le_of_lt hy5_1)); obtain ⟨hc5, hf5⟩ := bcell hb5; have hz5_0 : w.heap.size < w5.heap.size := lt_below hb5 (by first | with_reducible assumption | (simp; done) | (simp; omega)); have hl5_0 := Nat.le_of_lt hz5_0; have hz5_1 : w2.heap.size < w5.heap.size := lt_below hb5 (by first | with_reducible assumption | (simp; done) | (simp; omega)); have hl5_1 := Nat.le_of_lt hz5_1; have hz5_2 : w2.heap.size + 1 < w5.heap.size := lt_below hb5 (by first | with_reducible assumption | (simp; done) | (simp; omega)); have hl5_2 := Nat.le_of_lt hz5_2; have hA5 := bnext (w0 := w) (by (repeat (first | with_reducible assumption | with_reducible exact Below.refl _ _ | with_reducible refine Below.setCell ?_ (by first | omega | (dsimp only; omega) | (simp <;> omega)) _ | with_reducible refine Below.alloc ?_ (by first | omega | (simp <;> omega)) _ | with_reducible refine Below.drew ?_))) hb5; have hs5 := hA5.size; clear hb5))
    all_goals (
      go_wp2_with fail
      go_meet
      exact ⟨_, rfl, rfl, rfl, .of (by go_simp) (by go_simp) (by go_simp) (by go_simp), .of (by go_simp) (by go_simp) (by go_simp) (by go_simp), .of (by go_simp) (by go_simp) (by go_simp) (by go_simp), by go_simp, by go_simp, by (repeat (first | with_reducible assumption | with_reducible exact Below.refl _ _ | with_reducible refine Below.setCell ?_ (by first | omega | (dsimp only; omega) | (simp <;> omega)) _ | with_reducible refine Below.alloc ?_ (by first | omega | (simp <;> omega)) _ | with_reducible refine Below.drew ?_)), by first | assumption | (simp; done) | (simp; omega), by first | assumption | (simp; done) | (simp; omega)⟩)
  case rest =>
    obtain ⟨g, rfl, rfl, rfl, fB, fx, fk, e1, e3, hbw, hg, hsz⟩ := hcut
    have hl0 : w.heap.size < wc.heap.size := by omega
    have hle0 := Nat.le_of_lt hl0
    have hle1 := Nat.le_of_lt hsz
    have hle2 := Nat.le_of_lt hg
    have p0 := fB.cell 0 (by decide)
    have p1 := fB.cell 1 (by decide)
    have p2 := fB.cell 2 (by decide)
    have p3 := fB.cell 3 (by decide)
    have x0 := fx.cell 0 (by decide)
    have x1 := fx.cell 1 (by decide)
    have x2 := fx.cell 2 (by decide)
    have x3 := fx.cell 3 (by decide)
    have y0 := fk.cell 0 (by decide)
    have y1 := fk.cell 1 (by decide)
    have y2 := fk.cell 2 (by decide)
    have y3 := fk.cell 3 (by decide)
    simp only [Nat.zero_add, Nat.add_zero] at p0 p1 p2 p3 x0 x1 x2 x3
    simp only [Nat.reduceAdd, Nat.add_zero] at y0 y1 y2 y3
    clear c17 c11 c15 c16 fB fx fk
    go_wp2_with (first | (go_at_call 13; refine (c13 _ (hT.go (by (repeat (first | with_reducible assumption | with_reducible exact Below.refl _ _ | with_reducible refine Below.setCell ?_ (by first | omega | (dsimp only; omega) | (simp <;> omega)) _ | with_reducible refine Below.alloc ?_ (by first | omega | (simp <;> omega)) _ | with_reducible refine Below.drew ?_))))).mono ?_; rintro r w6 ⟨rfl, hb6⟩; obtain ⟨hc6, hf6⟩ := bcell hb6; have hz6_0 : w.heap.size < w6.heap.size := lt_below hb6 (by first | with_reducible assumption | (simp; done) | (simp; omega)); have hl6_0 := Nat.le_of_lt hz6_0; have hz6_1 : w2.heap.size < w6.heap.size := lt_below hb6 (by first | with_reducible assumption | (simp; done) | (simp; omega)); have hl6_1 := Nat.le_of_lt hz6_1; have hz6_2 : g < w6.heap.size := lt_below hb6 (by first | with_reducible assumption | (simp; done) | (simp; omega)); have hl6_2 := Nat.le_of_lt hz6_2; have hA6 := bnext (w0 := w) (by (repeat (first | with_reducible assumption | with_reducible exact Below.refl _ _ | with_reducible refine Below.setCell ?_ (by first | omega | (dsimp only; omega) | (simp <;> omega)) _ | with_reducible refine Below.alloc ?_ (by first | omega | (simp <;> omega)) _ | with_reducible refine Below.drew ?_))) hb6; have hs6 := hA6.size; clear hb6))
    go_ret
    exact ⟨by simp, by (repeat (first | with_reducible assumption | with_reducible exact Below.refl _ _ | with_reducible refine Below.setCell ?_ (by first | omega | (dsimp only; omega) | (simp <;> omega)) _ | with_reducible refine Below.alloc ?_ (by first | omega | (simp <;> omega)) _ | with_reducible refine Below.drew ?_))⟩
end
end Go.Proofs.YthcndcanahhbcaaDoor
