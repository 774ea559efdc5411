/-
  Texts that the proof leans on.
-/
import Derived.Test.YtehgnckgmdkfmaaDoorJ24
import Derived.Test.YtehgnckgmdkfmaaDoorJ20
import Derived.Test.YtehgnckgmdkfmaaDoorJ5
set_option linter.unusedVariables false
set_option linter.unusedSectionVars false
set_option linter.unusedSimpArgs false
set_option maxRecDepth 20000
namespace Go.Proofs.YtehgnckgmdkfmaaDoor
open Go.RowKit
section
theorem bcelln {n : Nat} {W w1 : World} (hb : Below n W w1) : (∀ b o, b < n → w1.cell? ⟨b, o, none⟩ = W.cell? ⟨b, o, none⟩) ∧ (∀ b o, b < n → w1.frozen? ⟨b, o, none⟩ = W.frozen? ⟨b, o, none⟩) :=
  ⟨fun b o h => hb.cell (p := ⟨b, o, none⟩) h, fun b o h => hb.frozen (p := ⟨b, o, none⟩) h⟩
theorem below_put {n g X : Nat} {a W : World} (h : Below n a W) (hg : n ≤ g) : Below n a (put4C W g X) :=
  (((h.setCell hg _).setCell hg _).setCell hg _).setCell hg _
attribute [local irreducible] W4
attribute [local go_sem ↓] ld18_eq
attribute [local go_sem] ld18_got
section
variable (dn : Bool) (g t bl : Int) (wo co pa : Nat) (le mo : Int) (w : World) (x : Int) (s q : Bool) (k J : Nat) (G : Int)
set_option maxHeartbeats 1000000 in
theorem dfin_s : Calls Tryd.prog 46 #[LD dn g t bl wo co pa le mo, DV 1 s true x k] w fun r w' => r = .returned (.tuple #[A4 0, .int .i64 3]) ∧ Below w.heap.size w w' := by
  have hsm := cell_set_map
  rw [Z4_eq]
  go_enter Tryd.func46, Tryd.ntmps46
  go_wp2
  exact bodyPost_ret (by simp only [results, Tryd.results46]; go_simp) rfl ⟨rfl, bgo⟩
set_option maxHeartbeats 1000000 in
theorem dfin_l (h : x < le) : Calls Tryd.prog 46 #[LD dn g t bl wo co pa le mo, DV 1 s false x k] w fun r w' => r = .returned (.tuple #[A4 0, .int .i64 3]) ∧ Below w.heap.size w w' := by
  have hsm := cell_set_map
  rw [Z4_eq]
  go_enter Tryd.func46, Tryd.ntmps46
  go_wp2
  exact bodyPost_ret (by simp only [results, Tryd.results46]; go_simp) rfl ⟨rfl, bgo⟩
set_option maxHeartbeats 1000000 in
theorem dfin_m (h1 : ¬ x < le) (h2 : mo < x) : Calls Tryd.prog 46 #[LD dn g t bl wo co pa le mo, DV 1 s false x k] w fun r w' => r = .returned (.tuple #[A4 0, .int .i64 3]) ∧ Below w.heap.size w w' := by
  have hsm := cell_set_map
  rw [Z4_eq]
  go_enter Tryd.func46, Tryd.ntmps46
  go_wp2
  exact bodyPost_ret (by simp only [results, Tryd.results46]; go_simp) rfl ⟨rfl, bgo⟩
variable (Q : Int) (cc : ∀ W, Calls Tryd.prog 71 #[A4 k, A4 co] W fun r w' => r = .returned (.int .i64 Q) ∧ Below W.heap.size W w') (h1 : ¬ x < le) (h2 : ¬ mo < x)
include cc h1 h2
set_option maxHeartbeats 1000000 in
theorem dfin_k (hQ : 0 ≤ Q) : Calls Tryd.prog 46 #[LD dn g t bl wo co pa le mo, DV 1 s false x k] w fun r w' => r = .returned (.tuple #[A4 0, .int .i64 3]) ∧ Below w.heap.size w w' := by
  have hsm := cell_set_map
  rw [Z4_eq]
  go_enter Tryd.func46, Tryd.ntmps46
  go_wp2_with (go_at_call 71; refine (cc _).mono ?_; rintro r w1 ⟨rfl, hb1⟩; obtain ⟨hc1, hf1⟩ := bcell hb1; have hz1_0 : w.heap.size < w1.heap.size := lt_below hb1 ltg; have hl1_0 := Nat.le_of_lt hz1_0; have hz1_1 : w.heap.size + 1 < w1.heap.size := lt_below hb1 ltg; have hl1_1 := Nat.le_of_lt hz1_1; have hz1_2 : w.heap.size + 1 + 1 < w1.heap.size := lt_below hb1 ltg; have hl1_2 := Nat.le_of_lt hz1_2; have hz1_3 : w.heap.size + 1 + 1 + 1 < w1.heap.size := lt_below hb1 ltg; have hl1_3 := Nat.le_of_lt hz1_3; have hA1 := bnext (w0 := w) bgo hb1; have hs1 := hA1.size; clear hb1)
  exact bodyPost_ret (by simp only [results, Tryd.results46]; go_simp) rfl ⟨rfl, bgo⟩
set_option maxHeartbeats 4000000 in
theorem dfin_y (hQ : ¬ 0 ≤ Q) (m : Nat) (hm : m ≤ 100) (R : Nat → Nat) (qc cr : Nat → Int) (hR : R 0 = k) (T : Nat) (hl0 : -1000000 ≤ le) (hl1 : le ≤ 1000000) (hx1 : x ≤ 1000000) (gl : Int)
    (cq : Hid (∀ i, i ≤ m → ∀ W, Calls Tryd.prog 71 #[A4 (R i), A4 wo] W fun r w' => r = .returned (.int .i64 (qc i)) ∧ Below W.heap.size W w'))
    (hq1 : Hid (∀ i, i < m → 0 ≤ qc i)) (hq2 : Hid (¬ 0 ≤ qc m))
    (cu : Hid (∀ i, i < m → ∀ W, Calls Tryd.prog 68 #[A4 (R i), A4 wo] W fun r w' => r = .returned (.tuple #[A4 (R (i + 1)), .int .u64 (cr i)]) ∧ Below W.heap.size W w'))
    (cn : ∀ W, Calls Tryd.prog 76 #[LD dn g t bl wo co pa le mo, .int .u64 (x - le), .int .u64 (m : Int)] W fun r w' => r = .returned (.int .u64 gl) ∧ Below W.heap.size W w')
    (cw : ∀ W, Calls Tryd.prog 77 #[LD dn g t bl wo co pa le mo, A4 (R m)] W fun r w' => r = .returned (A4 T) ∧ Below W.heap.size W w')
    (cj : ∀ W, Calls Tryd.prog 75 #[LD dn g t bl wo co pa le mo, .bool s, .int .u64 gl, A4 T] W fun r w' => r = .returned (A4 J) ∧ Below W.heap.size W w') :
    Calls Tryd.prog 46 #[LD dn g t bl wo co pa le mo, DV 1 s false x k] w fun r w' => r = .returned (.tuple #[A4 J, .int .i64 0]) ∧ Below w.heap.size w w' := by
  have hsm := cell_set_map
  have hxl0 : 0 ≤ x - le := by omega
  have hxl1 : x - le ≤ 2000000 := by omega
  go_enter Tryd.func46, Tryd.ntmps46
  go_wp2_with (go_at_call 71; refine (cc _).mono ?_; rintro r w1 ⟨rfl, hb1⟩; clear cc; obtain ⟨hc1, hf1⟩ := bcell hb1; have hz1_0 : w.heap.size < w1.heap.size := lt_below hb1 ltg; have hl1_0 := Nat.le_of_lt hz1_0; have hz1_1 : w.heap.size + 1 < w1.heap.size := lt_below hb1 ltg; have hl1_1 := Nat.le_of_lt hz1_1; have hz1_2 : w.heap.size + 1 + 1 < w1.heap.size := lt_below hb1 ltg; have hl1_2 := Nat.le_of_lt hz1_2; have hz1_3 : w.heap.size + 1 + 1 + 1 < w1.heap.size := lt_below hb1 ltg; have hl1_3 := Nat.le_of_lt hz1_3; have hA1 := bnext (w0 := w) bgo hb1; have hs1 := hA1.size; clear hb1)
  go_loopw [7, 34, 35, 36, 37, 38, 39, 40, 41, 42, 43, 44, 45, 46, 47] (fun t _ _ _ _ _ _ _ _ _ _ _ _ _ _ wr => ∃ (i : Nat), i ≤ m ∧ t = .int .u64 (i : Int) ∧ C4 (w.heap.size + 1 + 1 + 1) (R i) wr ∧ Below (w.heap.size + 1 + 1 + 1) w1 wr ∧ Below w.heap.size w wr) (fun t _ _ _ _ _ _ _ _ _ _ _ _ _ _ _ => m - (intOf t).toNat)
  case atStart =>
    refine ⟨0, Nat.zero_le _, rfl, ?_, Below.refl _ _, bgo⟩
    rw [hR]; refine ⟨by omega, ?_, ?_, ?_, ?_, ?_, ?_, ?_, ?_⟩ <;> go_simp
  case round =>
    obtain ⟨i, hi, rfl, h3, hbw, hbx⟩ := hrel
    have hl3 := h3.lt
    have hl2 : w.heap.size + 1 + 1 < wr.heap.size := by omega
    have hl1 : w.heap.size + 1 < wr.heap.size := by omega
    have hl0 : w.heap.size < wr.heap.size := by omega
    have z0 : w.heap.size < w.heap.size + 1 + 1 + 1 := by omega
    have z1 : w.heap.size + 1 < w.heap.size + 1 + 1 + 1 := by omega
    have z2 : w.heap.size + 1 + 1 < w.heap.size + 1 + 1 + 1 := by omega
    obtain ⟨hcw, hfw⟩ := bcelln hbw
    obtain ⟨_, o0, o1, o2, o3, g0, g1, g2, g3⟩ := id h3
    have dq := cq.out i hi
    by_cases hic : i < m
    · have du := cu.out i hic
      have hq := hq1.out i hic
      have hi0 : (0 : Int) ≤ (i : Int) := by omega
      have hi1 : (i : Int) ≤ 100 := by omega
      generalize R i = Ri at *
      generalize qc i = Qi at *
      go_wp2_with (first
        | (go_at_call 71; refine (dq _).mono ?_; rintro r w2 ⟨rfl, hb2⟩; have hn3 := h3.next hb2; have hbw2 := hbw.trans (hb2.mono (by omega)); obtain ⟨hc2, hf2⟩ := bcell hb2; have hz2_0 : w.heap.size < w2.heap.size := lt_below hb2 ltg; have hl2_0 := Nat.le_of_lt hz2_0; have hz2_1 : w.heap.size + 1 < w2.heap.size := lt_below hb2 ltg; have hl2_1 := Nat.le_of_lt hz2_1; have hz2_2 : w.heap.size + 1 + 1 < w2.heap.size := lt_below hb2 ltg; have hl2_2 := Nat.le_of_lt hz2_2; have hz2_3 : w.heap.size + 1 + 1 + 1 < w2.heap.size := lt_below hb2 ltg; have hl2_3 := Nat.le_of_lt hz2_3; have hA2 := bnext (w0 := w) bgo hb2; have hs2 := hA2.size; clear hb2)
        | (go_at_call 68; refine (du _).mono ?_; rintro r w3 ⟨rfl, hb3⟩; have hm3 := hn3.next hb3; have hbw3 := hbw2.trans (hb3.mono (by omega)); obtain ⟨hc3, hf3⟩ := bcell hb3; have hz3_0 : w.heap.size < w3.heap.size := lt_below hb3 ltg; have hl3_0 := Nat.le_of_lt hz3_0; have hz3_1 : w.heap.size + 1 < w3.heap.size := lt_below hb3 ltg; have hl3_1 := Nat.le_of_lt hz3_1; have hz3_2 : w.heap.size + 1 + 1 < w3.heap.size := lt_below hb3 ltg; have hl3_2 := Nat.le_of_lt hz3_2; have hz3_3 : w.heap.size + 1 + 1 + 1 < w3.heap.size := lt_below hb3 ltg; have hl3_3 := Nat.le_of_lt hz3_3; have hA3 := bnext (w0 := w) bgo hb3; have hs3 := hA3.size; clear hb3))
      go_roundw
      case rel => exact ⟨i + 1, by omega, by go_num, hm3.put, below_put hbw3 (by omega), bgo⟩
      case measure => simp [intOf]; omega
    · obtain rfl : i = m := by omega
      have hq := hq2.out
      clear cq cu hq1 hq2
      generalize R i = Ri at *
      generalize qc i = Qi at *
      generalize (i : Int) = mi at *
      go_wp2_with (go_at_call 71; refine (dq _).mono ?_; rintro r w2 ⟨rfl, hb2⟩; clear dq; obtain ⟨hc2, hf2⟩ := bcell hb2; have hz2_0 : w.heap.size < w2.heap.size := lt_below hb2 ltg; have hl2_0 := Nat.le_of_lt hz2_0; have hz2_1 : w.heap.size + 1 < w2.heap.size := lt_below hb2 ltg; have hl2_1 := Nat.le_of_lt hz2_1; have hz2_2 : w.heap.size + 1 + 1 < w2.heap.size := lt_below hb2 ltg; have hl2_2 := Nat.le_of_lt hz2_2; have hz2_3 : w.heap.size + 1 + 1 + 1 < w2.heap.size := lt_below hb2 ltg; have hl2_3 := Nat.le_of_lt hz2_3; have hA2 := bnext (w0 := w) bgo hb2; have hs2 := hA2.size; clear hb2)
      refine wp_tail 16 (by kernel_rfl) (by kernel_rfl) (by kernel_rfl) (fun _ _ d _ _ h => by cases d <;> exact h) fun hne hcell => ?_
      simp only [List.take_succ_cons, List.take_zero, List.drop_succ_cons, List.drop_zero]
      repeat go_big_quiet_step (fail)
      go_big_quiet_step ((go_at_call 76; exact calls_wd _ bk_next (cn _)))
      repeat go_big_quiet_step (fail)
      go_big_quiet_step ((go_at_call 77; exact calls_wd _ bk_next (cw _)))
      repeat go_big_quiet_step (fail)
      go_big_quiet_step ((go_at_call 75; exact calls_wd _ bk_next (cj _)))
      repeat go_big_quiet_step (fail)
      refine wpQuiet_nil fun w3 hb3 => ?_
      obtain ⟨hc3, hf3⟩ := bcell hb3; have hz3_0 : w.heap.size < w3.heap.size := lt_below hb3 ltg; have hl3_0 := Nat.le_of_lt hz3_0; have hz3_1 : w.heap.size + 1 < w3.heap.size := lt_below hb3 ltg; have hl3_1 := Nat.le_of_lt hz3_1; have hz3_2 : w.heap.size + 1 + 1 < w3.heap.size := lt_below hb3 ltg; have hl3_2 := Nat.le_of_lt hz3_2; have hz3_3 : w.heap.size + 1 + 1 + 1 < w3.heap.size := lt_below hb3 ltg; have hl3_3 := Nat.le_of_lt hz3_3; have hA3 := bnext (w0 := w) bgo hb3; have hs3 := hA3.size; clear hb3
      go_wp2
      exact bodyPost_ret (v := .tuple #[A4 J, .int .i64 0]) (by simp only [results, Tryd.results46]; go_simp) rfl ⟨rfl, bgo⟩
end
end
end Go.Proofs.YtehgnckgmdkfmaaDoor
