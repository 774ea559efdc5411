/-
  The law BinaryRises: it returns true.
-/
import Derived.Test.YtemhpdhplbcgjaaDoorLb
set_option linter.unusedVariables false
set_option linter.unusedSectionVars false
set_option linter.unusedSimpArgs false
set_option maxRecDepth 20000
namespace Go.Proofs.YtemhpdhplbcgjaaDoor
open Go.RowKit

/-- a block holds four words of a number, from a place on -/
structure Four (w : World) (g o k : Nat) : Prop where
  cell : ∀ i, i < 4 → w.cell? ⟨g, o + i, none⟩ = some (.int .u64 (W4 k i))
theorem Four.of {w : World} {g o k : Nat} (h0 : w.cell? ⟨g, o + 0, none⟩ = some (.int .u64 (W4 k 0))) (h1 : w.cell? ⟨g, o + 1, none⟩ = some (.int .u64 (W4 k 1))) (h2 : w.cell? ⟨g, o + 2, none⟩ = some (.int .u64 (W4 k 2))) (h3 : w.cell? ⟨g, o + 3, none⟩ = some (.int .u64 (W4 k 3))) : Four w g o k :=
  ⟨fun i hi => by
    have : i = 0 ∨ i = 1 ∨ i = 2 ∨ i = 3 := by omega
    rcases this with rfl | rfl | rfl | rfl <;> assumption⟩
theorem Four.next {w w' : World} {g o k : Nat} (h : Four w g o k) (hg : g < w.heap.size) (hb : Below w.heap.size w w') : Four w' g o k :=
  ⟨fun i hi => by rw [hb.cell (p := ⟨g, o + i, none⟩) hg]; exact h.cell i hi⟩
/-- a block holds a datum -/
structure Dc (w : World) (g : Nat) (c : Int) (s b : Bool) (x : Int) (k : Nat) : Prop where
  c0 : w.cell? ⟨g, 0, none⟩ = some (.int .i64 c)
  c1 : w.cell? ⟨g, 1, none⟩ = some (.bool s)
  c2 : w.cell? ⟨g, 2, none⟩ = some (.bool b)
  c3 : w.cell? ⟨g, 3, none⟩ = some (.int .i64 x)
  c4 : w.cell? ⟨g, 4, none⟩ = some (.int .u64 (W4 k 0))
  c5 : w.cell? ⟨g, 5, none⟩ = some (.int .u64 (W4 k 1))
  c6 : w.cell? ⟨g, 6, none⟩ = some (.int .u64 (W4 k 2))
  c7 : w.cell? ⟨g, 7, none⟩ = some (.int .u64 (W4 k 3))
theorem Dc.next {w w' : World} {g : Nat} {c : Int} {s b : Bool} {x : Int} {k : Nat} (h : Dc w g c s b x k) (hg : g < w.heap.size) (hb : Below w.heap.size w w') : Dc w' g c s b x k :=
  ⟨by rw [hb.cell (p := ⟨g, 0, none⟩) hg, h.c0], by rw [hb.cell (p := ⟨g, 1, none⟩) hg, h.c1], by rw [hb.cell (p := ⟨g, 2, none⟩) hg, h.c2], by rw [hb.cell (p := ⟨g, 3, none⟩) hg, h.c3],
   by rw [hb.cell (p := ⟨g, 4, none⟩) hg, h.c4], by rw [hb.cell (p := ⟨g, 5, none⟩) hg, h.c5], by rw [hb.cell (p := ⟨g, 6, none⟩) hg, h.c6], by rw [hb.cell (p := ⟨g, 7, none⟩) hg, h.c7]⟩
theorem Dc.four {w : World} {g : Nat} {c : Int} {s b : Bool} {x : Int} {k : Nat} (h : Dc w g c s b x k) : Four w g 4 k := .of h.c4 h.c5 h.c6 h.c7
/-- what stands in the words below i -/
def mo (A B i : Nat) : Bool := decide (val (W4 B) i < val (W4 A) i)
theorem mo_zero (A B : Nat) : mo A B 0 = false := by unfold mo; rfl
theorem mo_same {A B i : Nat} (h : W4 A i = W4 B i) : mo A B (i + 1) = mo A B i := by
  unfold mo
  simp only [val, h]
  congr 1
  simp
theorem mo_other {A B i : Nat} (h : W4 A i ≠ W4 B i) : mo A B (i + 1) = decide (W4 B i < W4 A i) := by
  unfold mo
  have a1 := val_bd (W4_words A) i
  have b1 := val_bd (W4_words B) i
  apply decide_eq_decide.2
  simp only [val]
  generalize (18446744073709551616 : Int) ^ i = P at *
  by_cases h1 : W4 B i < W4 A i
  · have : (W4 B i + 1) * P ≤ W4 A i * P := Int.mul_le_mul_of_nonneg_right (by omega) (by omega)
    rw [Int.add_mul] at this
    exact ⟨fun _ => h1, fun _ => by omega⟩
  · have : (W4 A i + 1) * P ≤ W4 B i * P := Int.mul_le_mul_of_nonneg_right (by omega) (by omega)
    rw [Int.add_mul] at this
    exact ⟨fun hh => by omega, fun hh => absurd hh h1⟩
theorem mo_four {A B : Nat} (hA : A < 2 ^ 256) (hB : B < 2 ^ 256) : mo A B 4 = decide (B < A) := by
  unfold mo
  rw [W4_val4 hA, W4_val4 hB]
  simp
attribute [local irreducible] W4 mo
section
variable (n : Int) (A B : Nat) (w : World) (hT : Tab w) (Xc Xx Yc Yx : Int) (Xs Xg Yg : Bool) (Xk Yk : Nat)
include hT
set_option maxHeartbeats 2000000 in
theorem rises_c
    (c10 : ∀ w, Tab w → Calls Tryd.prog 10 #[.int .i64 n, A4 A] w fun x w' => x = .returned (.tuple #[DV Xc Xs Xg Xx Xk, .int .i64 0]) ∧ Below w.heap.size w w')
    (c10b : ∀ w, Tab w → Calls Tryd.prog 10 #[.int .i64 n, A4 B] w fun x w' => x = .returned (.tuple #[DV Yc Xs Yg Yx Yk, .int .i64 0]) ∧ Below w.heap.size w w')
    (hx3 : (Xc == 3) = false) (hy3 : (Yc == 3) = false) (hc : (Xc == Yc) = false) (hm : mo A B 4 = decide (Yc < Xc))
    : Calls Tryd.prog 7 #[.int .i64 n, A4 A, A4 B] w fun x w' => x = .returned (.bool true) ∧ Below w.heap.size w w' := by
  have hc2 : (Xc != Yc) = true := by simpa using hc
  go_enter Tryd.func7, Tryd.ntmps7
  go_wp2_with (first
    | (go_at_call 9; refine (awake_any _ ((hT.alloc _).alloc _)).mono ?_; rintro x w1 ⟨rfl, hb1⟩; obtain ⟨hc1, hf1⟩ := bcell hb1; have hz1_0 : w.heap.size < w1.heap.size := lt_below hb1 (by first | with_reducible assumption | (simp; done) | (simp; omega)); have hl1_0 := Nat.le_of_lt hz1_0; have hz1_1 : w.heap.size + 1 < w1.heap.size := lt_below hb1 (by first | with_reducible assumption | (simp; done) | (simp; omega)); have hl1_1 := Nat.le_of_lt hz1_1; have hA1 := bnext (w0 := w) (by (repeat (first | with_reducible assumption | with_reducible exact Below.refl _ _ | with_reducible refine Below.setCell ?_ (by first | omega | (dsimp only; omega) | (simp <;> omega)) _ | with_reducible refine Below.alloc ?_ (by first | omega | (simp <;> omega)) _ | with_reducible refine Below.drew ?_))) hb1; have hs1 := hA1.size; clear hb1)
    | (have := hA2; go_at_call 10; refine (c10b _ (hT.go (by (repeat (first | with_reducible assumption | with_reducible exact Below.refl _ _ | with_reducible refine Below.setCell ?_ (by first | omega | (dsimp only; omega) | (simp <;> omega)) _ | with_reducible refine Below.alloc ?_ (by first | omega | (simp <;> omega)) _ | with_reducible refine Below.drew ?_))))).mono ?_; rintro x w3 ⟨rfl, hb3⟩; obtain ⟨hc3, hf3⟩ := bcell hb3; have hz3_0 : w.heap.size < w3.heap.size := lt_below hb3 (by first | with_reducible assumption | (simp; done) | (simp; omega)); have hl3_0 := Nat.le_of_lt hz3_0; have hz3_1 : w.heap.size + 1 < w3.heap.size := lt_below hb3 (by first | with_reducible assumption | (simp; done) | (simp; omega)); have hl3_1 := Nat.le_of_lt hz3_1; have hz3_2 : w2.heap.size < w3.heap.size := lt_below hb3 (by first | with_reducible assumption | (simp; done) | (simp; omega)); have hl3_2 := Nat.le_of_lt hz3_2; have hA3 := bnext (w0 := w) (by (repeat (first | with_reducible assumption | with_reducible exact Below.refl _ _ | with_reducible refine Below.setCell ?_ (by first | omega | (dsimp only; omega) | (simp <;> omega)) _ | with_reducible refine Below.alloc ?_ (by first | omega | (simp <;> omega)) _ | with_reducible refine Below.drew ?_))) hb3; have hs3 := hA3.size; clear hb3)
    | (go_at_call 10; refine (c10 _ (hT.go hA1)).mono ?_; rintro x w2 ⟨rfl, hb2⟩; obtain ⟨hc2, hf2⟩ := bcell hb2; have hz2_0 : w.heap.size < w2.heap.size := lt_below hb2 (by first | with_reducible assumption | (simp; done) | (simp; omega)); have hl2_0 := Nat.le_of_lt hz2_0; have hz2_1 : w.heap.size + 1 < w2.heap.size := lt_below hb2 (by first | with_reducible assumption | (simp; done) | (simp; omega)); have hl2_1 := Nat.le_of_lt hz2_1; have hA2 := bnext (w0 := w) (by (repeat (first | with_reducible assumption | with_reducible exact Below.refl _ _ | with_reducible refine Below.setCell ?_ (by first | omega | (dsimp only; omega) | (simp <;> omega)) _ | with_reducible refine Below.alloc ?_ (by first | omega | (simp <;> omega)) _ | with_reducible refine Below.drew ?_))) hb2; have hs2 := hA2.size; clear hb2))
  go_loopw [11, 52] (fun m t wr => ∃ i : Nat, i ≤ 4 ∧ t = .int .i64 i ∧ m = .bool (mo A B i) ∧ Four wr w.heap.size 0 A ∧ Four wr (w.heap.size + 1) 0 B ∧ Dc wr w2.heap.size Xc Xs Xg Xx Xk ∧ Dc wr w3.heap.size Yc Xs Yg Yx Yk ∧ Below w.heap.size w wr ∧ w3.heap.size < wr.heap.size) (fun _ t _ => 4 - (intOf t).toNat)
  case atStart => exact ⟨0, by decide, rfl, by rw [mo_zero], .of (by go_simp) (by go_simp) (by go_simp) (by go_simp), .of (by go_simp) (by go_simp) (by go_simp) (by go_simp), ⟨by go_simp, by go_simp, by go_simp, by go_simp, by go_simp, by go_simp, by go_simp, by go_simp⟩, ⟨by go_simp, by go_simp, by go_simp, by go_simp, by go_simp, by go_simp, by go_simp, by go_simp⟩, by (repeat (first | with_reducible assumption | with_reducible exact Below.refl _ _ | with_reducible refine Below.setCell ?_ (by first | omega | (dsimp only; omega) | (simp <;> omega)) _ | with_reducible refine Below.alloc ?_ (by first | omega | (simp <;> omega)) _ | with_reducible refine Below.drew ?_)), by simp⟩
  case round =>
    obtain ⟨i, hi, rfl, rfl, fA, fB, fX, fY, hbw, hsz⟩ := hrel
    have hl0 : w.heap.size < wr.heap.size := by omega
    have hl1 : w.heap.size + 1 < wr.heap.size := by omega
    have hl2 : w2.heap.size < wr.heap.size := by omega
    by_cases h : i < 4
    · have hi4 : (i : Int) < 4 := by omega
      have hAi := fA.cell i h
      have hBi := fB.cell i h
      rw [Nat.zero_add] at hAi hBi
      by_cases he : W4 A i = W4 B i
      · have hn := mo_same he
        rw [he] at hAi
        clear he
        go_wp2
        refine wp_whole (by kernel_rfl) (by kernel_rfl) fun hne hcell => ?_
        repeat go_big_quiet_step (fail)
        refine wpQuiet_nil fun w5 hb5 => ?_
        go_wp2
        go_roundw
        case rel => exact ⟨i + 1, by omega, by go_num, by rw [hn], fA.next hl0 hb5, fB.next hl1 hb5, fX.next hl2 hb5, fY.next hsz hb5, bnext hbw hb5, Nat.lt_of_lt_of_le hsz hb5.size⟩
        case measure => simp [intOf]; omega
      · have hn := mo_other he
        have hne1 : (W4 A i == W4 B i) = false := by simpa using he
        have hne2 : (W4 A i != W4 B i) = true := by simpa using he
        go_wp2
        refine wp_whole (by kernel_rfl) (by kernel_rfl) fun hne hcell => ?_
        repeat go_big_quiet_step (fail)
        refine wpQuiet_nil fun w5 hb5 => ?_
        have hA5 : w5.cell? ⟨w.heap.size, i, none⟩ = some (.int .u64 (W4 A i)) := by rw [(bcell hb5).1 _ _ hl0]; exact hAi
        have hB5 : w5.cell? ⟨w.heap.size + 1, i, none⟩ = some (.int .u64 (W4 B i)) := by rw [(bcell hb5).1 _ _ hl1]; exact hBi
        have hl5 := lt_below hb5 hl0
        have hl6 := lt_below hb5 hl1
        go_wp2
        refine wp_whole (by kernel_rfl) (by kernel_rfl) fun hne hcell => ?_
        repeat go_big_quiet_step (fail)
        refine wpQuiet_nil fun w6 hb6 => ?_
        go_wp2
        go_roundw
        case rel => exact ⟨i + 1, by omega, by go_num, by rw [hn], (fA.next hl0 hb5).next (lt_below hb5 hl0) hb6, (fB.next hl1 hb5).next (lt_below hb5 hl1) hb6, (fX.next hl2 hb5).next (lt_below hb5 hl2) hb6, (fY.next hsz hb5).next (lt_below hb5 hsz) hb6, bnext (bnext hbw hb5) hb6, Nat.lt_of_lt_of_le (lt_below hb5 hsz) hb6.size⟩
        case measure => simp [intOf]; omega
    · obtain rfl : i = 4 := by omega
      obtain ⟨x0, x1, x2, x3, x4, x5, x6, x7⟩ := fX
      obtain ⟨y0, y1, y2, y3, y4, y5, y6, y7⟩ := fY
      go_wp2
      go_ret
      exact ⟨by simp [hm], hbw⟩
end
end Go.Proofs.YtemhpdhplbcgjaaDoor
