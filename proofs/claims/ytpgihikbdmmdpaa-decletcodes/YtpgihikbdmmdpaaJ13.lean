/-
  Texts that the proof leans on, joined: Dk, Nw, Rat.
-/
import Derived.Test.YtpgihikbdmmdpaaJ9
import Derived.Test.YtpgihikbdmmdpaaJ10
import Derived.Test.YtpgihikbdmmdpaaJ12
import Derived.Test.YtpgihikbdmmdpaaJ1
import Derived.Test.YtpgihikbdmmdpaaJ5
import Derived.Test.YtpgihikbdmmdpaaJ4
import Derived.Test.YtpgihikbdmmdpaaJ3
set_option linter.unusedVariables false
set_option linter.unusedSectionVars false
set_option linter.unusedSimpArgs false
set_option maxRecDepth 20000
namespace Go.Proofs.Ytpgihikbdmmdpaa
open Go.RowKit
theorem C4.other {g g' X Y : Nat} {w : World} (h : C4 g X w) (hne : g ≠ g') : C4 g X (put4C w g' Y) := by
  have hU := put4C_upd w g' Y
  have hb := hU.block g hne
  have hl : g < (put4C w g' Y).heap.size := by rw [hU.size]; exact h.lt
  exact ⟨hl, (World.cell?_of_block (a := ⟨g, 0, none⟩) hb).trans h.c0, (World.cell?_of_block (a := ⟨g, 1, none⟩) hb).trans h.c1, (World.cell?_of_block (a := ⟨g, 2, none⟩) hb).trans h.c2, (World.cell?_of_block (a := ⟨g, 3, none⟩) hb).trans h.c3, (World.frozen?_of_block (a := ⟨g, 0, none⟩) hb).trans h.f0, (World.frozen?_of_block (a := ⟨g, 1, none⟩) hb).trans h.f1, (World.frozen?_of_block (a := ⟨g, 2, none⟩) hb).trans h.f2, (World.frozen?_of_block (a := ⟨g, 3, none⟩) hb).trans h.f3⟩
attribute [local irreducible] W4
section
variable (C c : Nat) (n : Int) (w : World)
set_option maxHeartbeats 400000 in
theorem dpck_n (ck : ∀ W, Calls Try.prog 24 #[.int .i64 n] W fun r w' => r = .returned (.bool false) ∧ W = w') :
    Calls Try.prog 15 #[A4 C, .int .i64 n] w fun r w' => r = .returned (.tuple #[A4 0, .int .i64 1]) ∧ Below w.heap.size w w' := by
  rw [Z4_eq]
  have hsm := cell_set_map
  go_enter Try.func15, Try.ntmps15
  go_wp2_with (go_at_call 24; refine (ck _).mono ?_; rintro r w1 ⟨rfl, rfl⟩)
  exact bodyPost_ret (by simp only [results, Try.results15]; go_simp) rfl ⟨rfl, bgo⟩
set_option maxHeartbeats 400000 in
theorem dupk_n (ck : ∀ W, Calls Try.prog 24 #[.int .i64 n] W fun r w' => r = .returned (.bool false) ∧ W = w') :
    Calls Try.prog 17 #[A4 C, .int .i64 n] w fun r w' => r = .returned (.tuple #[A4 0, .int .i64 1]) ∧ Below w.heap.size w w' := by
  rw [Z4_eq]
  have hsm := cell_set_map
  go_enter Try.func17, Try.ntmps17
  go_wp2_with (go_at_call 24; refine (ck _).mono ?_; rintro r w1 ⟨rfl, rfl⟩)
  exact bodyPost_ret (by simp only [results, Try.results17]; go_simp) rfl ⟨rfl, bgo⟩
end
section
variable (C c : Nat) (w : World) (A P X D T : Nat → Nat) (cr : Nat → Int) (L : Int) (hc : c ≤ 11)
  (ck : ∀ W, Calls Try.prog 24 #[.int .i64 (c : Int)] W fun r w' => r = .returned (.bool true) ∧ W = w')
  (cd : Hid (∀ i, i < c → ∀ W, Calls Try.prog 25 #[A4 (A i), .int .u64 1000] W fun r w' => r = .returned (.tuple #[A4 (A (i + 1)), .int .u64 (X i : Int)]) ∧ Below W.heap.size W w'))
  (hX : Hid (∀ i, X i < 1000))
  (ce : Hid (∀ i W, Calls Try.prog 9 #[.int .i64 (X i : Int)] W fun r w' => r = .returned (.tuple #[.int .i64 (D i : Int), .int .i64 0]) ∧ W = w'))
  (hD : Hid (∀ i, D i < 1024))
  (co : Hid (∀ i W, Calls Try.prog 28 #[.int .u64 (D i : Int)] W fun r w' => r = .returned (A4 (D i)) ∧ Below W.heap.size W w'))
  (cs : Hid (∀ i, i < c → ∀ W, Calls Try.prog 27 #[A4 (D i), .int .i64 (10 * (i : Int))] W fun r w' => r = .returned (A4 (T i)) ∧ Below W.heap.size W w'))
  (ca : Hid (∀ i, i < c → ∀ W, Calls Try.prog 26 #[A4 (P i), A4 (T i)] W fun r w' => r = .returned (.tuple #[A4 (P (i + 1)), .int .u64 (cr i)]) ∧ Below W.heap.size W w'))
  (cl : ∀ W, Calls Try.prog 29 #[A4 (A c)] W fun r w' => r = .returned (.int .i64 L) ∧ Below W.heap.size W w')
  (hA : A 0 = C) (hP : P 0 = 0)
include hc ck cd hX ce hD co cs ca cl hA hP
set_option maxHeartbeats 4000000 in
theorem dpck_w (R : Nat) (E : Int) (hR : (¬ 0 < L ∧ R = P c ∧ E = 0) ∨ (0 < L ∧ R = 0 ∧ E = 3)) : Calls Try.prog 15 #[A4 C, .int .i64 (c : Int)] w fun r w' => r = .returned (.tuple #[A4 R, .int .i64 E]) ∧ Below w.heap.size w w' := by
  have hsm := cell_set_map
  go_enter Try.func15, Try.ntmps15
  go_wp2_with (go_at_call 24; refine (ck _).mono ?_; rintro r w1 ⟨rfl, rfl⟩)
  go_loopw [8, 9, 10, 11, 18] (fun _ _ _ _ t wr => ∃ (i : Nat), i ≤ c ∧ t = .int .i64 (i : Int) ∧ C4 (w.heap.size + 1 + 1) (A i) wr ∧ C4 (w.heap.size + 1 + 1 + 1) (P i) wr ∧ C4 (w.heap.size + 1) 0 wr ∧ Below w.heap.size w wr) (fun _ _ _ _ t _ => c - (intOf t).toNat)
  case atStart =>
    refine ⟨0, Nat.zero_le _, rfl, ?_, ?_, ?_, bgo⟩
    · rw [hA]; refine ⟨by simp, ?_, ?_, ?_, ?_, ?_, ?_, ?_, ?_⟩ <;> go_simp
    · rw [hP]; refine ⟨by simp, ?_, ?_, ?_, ?_, ?_, ?_, ?_, ?_⟩ <;> first | (rw [W4_zero]; go_simp) | go_simp
    · refine ⟨by simp, ?_, ?_, ?_, ?_, ?_, ?_, ?_, ?_⟩ <;> first | (rw [W4_zero]; go_simp) | go_simp
  case round =>
    obtain ⟨i, hi, rfl, h3, h4, h5, hbw⟩ := hrel
    have hl3 := h3.lt
    have hl4 := h4.lt
    have hl5 := h5.lt
    have hl6 : w.heap.size < wr.heap.size := by omega
    obtain ⟨_, o0, o1, o2, o3, g0, g1, g2, g3⟩ := id h3
    obtain ⟨_, p0, p1, p2, p3, f0, f1, f2, f3⟩ := id h4
    obtain ⟨_, q0, q1, q2, q3, e0, e1, e2, e3⟩ := id h5
    by_cases hic : i < c
    · have hl : (i : Int) < (c : Int) := by omega
      have dd := cd.out i hic
      have de := ce.out i
      have do' := co.out i
      have ds := cs.out i hic
      have da := ca.out i hic
      have dX := hX.out i
      have dD := hD.out i
      have x0 : (0 : Int) ≤ (X i : Int) := by omega
      have x1 : (X i : Int) < 1000 := by omega
      have d0 : (0 : Int) ≤ (D i : Int) := by omega
      have d1 : (D i : Int) < 1024 := by omega
      clear hR cl dX dD
      generalize D i = Di at *
      generalize X i = Xi at *
      generalize P i = Pi at *
      generalize A i = Ai at *
      generalize T i = Ti at *
      go_wp2_with (first
        | (go_at_call 25; refine (dd _).mono ?_; rintro r w2 ⟨rfl, hb2⟩; have hn3 := h3.next hb2; have hn4 := h4.next hb2; have hn5 := h5.next hb2; obtain ⟨hc2, hf2⟩ := bcell hb2; have hz2_0 : w.heap.size < w2.heap.size := lt_below hb2 ltg; have hl2_0 := Nat.le_of_lt hz2_0; have hz2_1 : w.heap.size + 1 < w2.heap.size := lt_below hb2 ltg; have hl2_1 := Nat.le_of_lt hz2_1; have hz2_2 : w.heap.size + 1 + 1 < w2.heap.size := lt_below hb2 ltg; have hl2_2 := Nat.le_of_lt hz2_2; have hz2_3 : w.heap.size + 1 + 1 + 1 < w2.heap.size := lt_below hb2 ltg; have hl2_3 := Nat.le_of_lt hz2_3; have hA2 := bnext (w0 := w) bgo hb2; have hs2 := hA2.size; clear hb2)
        | (go_at_call 9; refine (de _).mono ?_; rintro r w3 ⟨rfl, rfl⟩))
      have hn3' := hn3.put (Y := A (i + 1))
      have hn4' := hn4.other (g' := w.heap.size + 1 + 1) (Y := A (i + 1)) (by omega)
      have hn5' := hn5.other (g' := w.heap.size + 1 + 1) (Y := A (i + 1)) (by omega)
      refine wp_tail 8 (by kernel_rfl) (by kernel_rfl) (by kernel_rfl) (fun _ _ d _ _ h => by cases d <;> exact h) fun hne hcell => ?_
      simp only [List.take_succ_cons, List.take_zero, List.drop_succ_cons, List.drop_zero]
      repeat go_big_quiet_step (fail)
      go_big_quiet_step ((go_at_call 28; exact calls_wd _ bk_next (do' _)))
      repeat go_big_quiet_step (fail)
      go_big_quiet_step ((go_at_call 27; exact calls_wd _ bk_next (ds _)))
      repeat go_big_quiet_step (fail)
      go_big_quiet_step ((go_at_call 26; exact calls_wd _ bk_next (da _)))
      refine wpQuiet_nil fun w4 hb4 => ?_
      have hm3 := hn3'.next hb4
      have hm4 := hn4'.next hb4
      have hm5 := hn5'.next hb4
      obtain ⟨hc4, hf4⟩ := bcell hb4; have hz4_0 : w.heap.size < w4.heap.size := lt_below hb4 ltg; have hl4_0 := Nat.le_of_lt hz4_0; have hz4_1 : w.heap.size + 1 < w4.heap.size := lt_below hb4 ltg; have hl4_1 := Nat.le_of_lt hz4_1; have hz4_2 : w.heap.size + 1 + 1 < w4.heap.size := lt_below hb4 ltg; have hl4_2 := Nat.le_of_lt hz4_2; have hz4_3 : w.heap.size + 1 + 1 + 1 < w4.heap.size := lt_below hb4 ltg; have hl4_3 := Nat.le_of_lt hz4_3; have hA4 := bnext (w0 := w) bgo hb4; have hs4 := hA4.size; clear hb4
      go_wp2
      go_roundw
      case rel => exact ⟨i + 1, by omega, by go_num, hm3.other (by omega), hm4.put, hm5.other (by omega), bgo⟩
      case measure => simp [intOf]; omega
    · have hl : ¬ (i : Int) < (c : Int) := by omega
      obtain rfl : i = c := by omega
      rcases hR with ⟨hA0, rfl, rfl⟩ | ⟨hA0, rfl, rfl⟩
      · go_wp2_with (go_at_call 29; refine (cl _).mono ?_; rintro r w2 ⟨rfl, hb2⟩; obtain ⟨hc2, hf2⟩ := bcell hb2; have hz2_0 : w.heap.size < w2.heap.size := lt_below hb2 ltg; have hl2_0 := Nat.le_of_lt hz2_0; have hz2_1 : w.heap.size + 1 < w2.heap.size := lt_below hb2 ltg; have hl2_1 := Nat.le_of_lt hz2_1; have hz2_2 : w.heap.size + 1 + 1 < w2.heap.size := lt_below hb2 ltg; have hl2_2 := Nat.le_of_lt hz2_2; have hz2_3 : w.heap.size + 1 + 1 + 1 < w2.heap.size := lt_below hb2 ltg; have hl2_3 := Nat.le_of_lt hz2_3; have hA2 := bnext (w0 := w) bgo hb2; have hs2 := hA2.size; clear hb2)
        exact bodyPost_ret (by simp only [results, Try.results15]; go_simp) rfl ⟨rfl, bgo⟩
      · go_wp2_with (go_at_call 29; refine (cl _).mono ?_; rintro r w2 ⟨rfl, hb2⟩; obtain ⟨hc2, hf2⟩ := bcell hb2; have hz2_0 : w.heap.size < w2.heap.size := lt_below hb2 ltg; have hl2_0 := Nat.le_of_lt hz2_0; have hz2_1 : w.heap.size + 1 < w2.heap.size := lt_below hb2 ltg; have hl2_1 := Nat.le_of_lt hz2_1; have hz2_2 : w.heap.size + 1 + 1 < w2.heap.size := lt_below hb2 ltg; have hl2_2 := Nat.le_of_lt hz2_2; have hz2_3 : w.heap.size + 1 + 1 + 1 < w2.heap.size := lt_below hb2 ltg; have hl2_3 := Nat.le_of_lt hz2_3; have hA2 := bnext (w0 := w) bgo hb2; have hs2 := hA2.size; clear hb2)
        exact bodyPost_ret (v := .tuple #[A4 0, .int .i64 3]) (by rw [Z4_eq]; simp only [results, Try.results15]; go_simp) rfl ⟨rfl, bgo⟩
end
section
variable (B c : Nat) (w : World) (L : Int) (hc : c ≤ 11)
  (ck : ∀ W, Calls Try.prog 24 #[.int .i64 (c : Int)] W fun r w' => r = .returned (.bool true) ∧ W = w')
  (cl : ∀ W, Calls Try.prog 29 #[A4 B] W fun r w' => r = .returned (.int .i64 L) ∧ Below W.heap.size W w')
include hc ck cl
set_option maxHeartbeats 1000000 in
theorem dupk_l (hL : 10 * (c : Int) < L) : Calls Try.prog 17 #[A4 B, .int .i64 (c : Int)] w fun r w' => r = .returned (.tuple #[A4 0, .int .i64 3]) ∧ Below w.heap.size w w' := by
  rw [Z4_eq]
  have hsm := cell_set_map
  have hc0 : (0 : Int) ≤ (c : Int) := by omega
  have hc1 : (c : Int) ≤ 11 := by omega
  go_enter Try.func17, Try.ntmps17
  go_wp2_with (first
    | (go_at_call 24; refine (ck _).mono ?_; rintro r w1 ⟨rfl, rfl⟩)
    | (go_at_call 29; refine (cl _).mono ?_; rintro r w2 ⟨rfl, hb2⟩; obtain ⟨hc2, hf2⟩ := bcell hb2; have hz2_0 : w.heap.size < w2.heap.size := lt_below hb2 ltg; have hl2_0 := Nat.le_of_lt hz2_0; have hz2_1 : w.heap.size + 1 < w2.heap.size := lt_below hb2 ltg; have hl2_1 := Nat.le_of_lt hz2_1; have hA2 := bnext (w0 := w) bgo hb2; have hs2 := hA2.size; clear hb2))
  exact bodyPost_ret (by simp only [results, Try.results17]; go_simp) rfl ⟨rfl, bgo⟩
variable (U X D S M : Nat → Nat) (cr cm : Nat → Int)
  (cs : Hid (∀ k, k < c → ∀ W, Calls Try.prog 34 #[A4 B, .int .i64 (10 * (k : Int))] W fun r w' => r = .returned (A4 (S k)) ∧ Below W.heap.size W w'))
  (hX : Hid (∀ k, W4 (S k) 0 % 1024 = (X k : Int) ∧ X k < 1024 ∧ 0 ≤ W4 (S k) 0))
  (ce : Hid (∀ k W, Calls Try.prog 11 #[.int .i64 (X k : Int)] W fun r w' => r = .returned (.tuple #[.int .i64 (D k : Int), .int .i64 0]) ∧ W = w'))
  (hD : Hid (∀ k, D k < 1000))
  (cu : Hid (∀ k, k < c → ∀ W, Calls Try.prog 35 #[A4 (U (k + 1)), .int .u64 1000] W fun r w' => r = .returned (.tuple #[A4 (M k), .int .u64 (cm k)]) ∧ Below W.heap.size W w'))
  (co : Hid (∀ k W, Calls Try.prog 28 #[.int .u64 (D k : Int)] W fun r w' => r = .returned (A4 (D k)) ∧ Below W.heap.size W w'))
  (ca : Hid (∀ k, k < c → ∀ W, Calls Try.prog 26 #[A4 (M k), A4 (D k)] W fun r w' => r = .returned (.tuple #[A4 (U k), .int .u64 (cr k)]) ∧ Below W.heap.size W w'))
  (hU : U c = 0)
include cs hX ce hD cu co ca hU
set_option maxHeartbeats 4000000 in
theorem dupk_w (hL : ¬ 10 * (c : Int) < L) : Calls Try.prog 17 #[A4 B, .int .i64 (c : Int)] w fun r w' => r = .returned (.tuple #[A4 (U 0), .int .i64 0]) ∧ Below w.heap.size w w' := by
  have hsm := cell_set_map
  have hc0 : (0 : Int) ≤ (c : Int) := by omega
  have hc1 : (c : Int) ≤ 11 := by omega
  go_enter Try.func17, Try.ntmps17
  go_wp2_with (first
    | (go_at_call 24; refine (ck _).mono ?_; rintro r w1 ⟨rfl, rfl⟩)
    | (go_at_call 29; refine (cl _).mono ?_; rintro r w2 ⟨rfl, hb2⟩; obtain ⟨hc2, hf2⟩ := bcell hb2; have hz2_0 : w.heap.size < w2.heap.size := lt_below hb2 ltg; have hl2_0 := Nat.le_of_lt hz2_0; have hz2_1 : w.heap.size + 1 < w2.heap.size := lt_below hb2 ltg; have hl2_1 := Nat.le_of_lt hz2_1; have hA2 := bnext (w0 := w) bgo hb2; have hs2 := hA2.size; clear hb2))
  go_loopw [7, 8, 9, 10] (fun t _ _ _ wr => ∃ (k : Nat), k ≤ c ∧ t = .int .i64 ((k : Int) - 1) ∧ C4 w2.heap.size (U k) wr ∧ C4 w.heap.size B wr ∧ C4 (w.heap.size + 1) 0 wr ∧ Below w.heap.size w wr) (fun t _ _ _ _ => (intOf t + 1).toNat)
  case atStart =>
    refine ⟨c, Nat.le_refl _, rfl, ?_, ?_, ?_, bgo⟩
    · rw [hU]; exact C4.new _ _
    · refine ⟨by simp; omega, ?_, ?_, ?_, ?_, ?_, ?_, ?_, ?_⟩ <;> go_simp
    · refine ⟨by simp; omega, ?_, ?_, ?_, ?_, ?_, ?_, ?_, ?_⟩ <;> first | (rw [W4_zero]; go_simp) | go_simp
  case round =>
    obtain ⟨k, hk, rfl, h3, h4, h5, hbw⟩ := hrel
    have hl3 := h3.lt
    have hl4 := h4.lt
    have hl5 := h5.lt
    have hz3 : w.heap.size + 1 < w2.heap.size := by omega
    obtain ⟨_, o0, o1, o2, o3, g0, g1, g2, g3⟩ := id h3
    obtain ⟨_, p0, p1, p2, p3, f0, f1, f2, f3⟩ := id h4
    obtain ⟨_, q0, q1, q2, q3, e0, e1, e2, e3⟩ := id h5
    by_cases hk0 : k = 0
    · subst hk0
      go_wp2
      exact bodyPost_ret (by simp only [results, Try.results17]; go_simp) rfl ⟨rfl, bgo⟩
    · obtain ⟨j, rfl⟩ : ∃ j, k = j + 1 := ⟨k - 1, by omega⟩
      have ej : ((j + 1 : Nat) : Int) - 1 = (j : Int) := by omega
      rw [ej]
      have hj : j < c := by omega
      have hj0 : ¬ (j : Int) < 0 := by omega
      have hj1 : (j : Int) ≤ 11 := by omega
      have ds := cs.out j hj
      obtain ⟨x2, x3, x4⟩ := hX.out j
      have de := ce.out j
      have du := cu.out j hj
      have do' := co.out j
      have da := ca.out j hj
      have dD := hD.out j
      have d0 : (0 : Int) ≤ (D j : Int) := by omega
      have d1 : (D j : Int) < 1000 := by omega
      have x0 : (0 : Int) ≤ (X j : Int) := by omega
      have x1 : (X j : Int) < 1024 := by omega
      clear ej dD x3 hL ck cl
      generalize D j = Dj at *
      generalize X j = Xj at *
      generalize S j = Sj at *
      generalize M j = Mj at *
      generalize U (j + 1) = Uj at *
      go_wp2_with (first
        | (go_at_call 34; refine (ds _).mono ?_; rintro r w3 ⟨rfl, hb3⟩; have hn3 := h3.next hb3; have hn4 := h4.next hb3; have hn5 := h5.next hb3; obtain ⟨hc3, hf3⟩ := bcell hb3; have hz3_0 : w.heap.size < w3.heap.size := lt_below hb3 ltg; have hl3_0 := Nat.le_of_lt hz3_0; have hz3_1 : w.heap.size + 1 < w3.heap.size := lt_below hb3 ltg; have hl3_1 := Nat.le_of_lt hz3_1; have hz3_2 : w2.heap.size < w3.heap.size := lt_below hb3 ltg; have hl3_2 := Nat.le_of_lt hz3_2; have hA3 := bnext (w0 := w) bgo hb3; have hs3 := hA3.size; clear hb3)
        | (go_at_call 11; refine (de _).mono ?_; rintro r w4 ⟨rfl, rfl⟩)
        | (go_at_call 35; refine (du _).mono ?_; rintro r w5 ⟨rfl, hb5⟩; obtain ⟨hc5, hf5⟩ := bcell hb5; have hz5_0 : w.heap.size < w5.heap.size := lt_below hb5 ltg; have hl5_0 := Nat.le_of_lt hz5_0; have hz5_1 : w.heap.size + 1 < w5.heap.size := lt_below hb5 ltg; have hl5_1 := Nat.le_of_lt hz5_1; have hz5_2 : w2.heap.size < w5.heap.size := lt_below hb5 ltg; have hl5_2 := Nat.le_of_lt hz5_2; have hA5 := bnext (w0 := w) bgo hb5; have hs5 := hA5.size; clear hb5))
      refine wp_tail 5 (by kernel_rfl) (by kernel_rfl) (by kernel_rfl) (fun _ _ d _ _ h => by cases d <;> exact h) fun hne hcell => ?_
      simp only [List.take_succ_cons, List.take_zero, List.drop_succ_cons, List.drop_zero]
      repeat go_big_quiet_step (fail)
      go_big_quiet_step ((go_at_call 28; exact calls_wd _ bk_next (do' _)))
      repeat go_big_quiet_step (fail)
      go_big_quiet_step ((go_at_call 26; exact calls_wd _ bk_next (da _)))
      refine wpQuiet_nil fun w6 hb6 => ?_
      obtain ⟨hc6, hf6⟩ := bcell hb6; have hz6_0 : w.heap.size < w6.heap.size := lt_below hb6 ltg; have hl6_0 := Nat.le_of_lt hz6_0; have hz6_1 : w.heap.size + 1 < w6.heap.size := lt_below hb6 ltg; have hl6_1 := Nat.le_of_lt hz6_1; have hz6_2 : w2.heap.size < w6.heap.size := lt_below hb6 ltg; have hl6_2 := Nat.le_of_lt hz6_2; have hA6 := bnext (w0 := w) bgo hb6; have hs6 := hA6.size; clear hb6
      go_wp2
      go_roundw
      case rel =>
        refine ⟨j, by omega, by go_num, ?_, ?_, ?_, bgo⟩
        · refine ⟨by simp; omega, ?_, ?_, ?_, ?_, ?_, ?_, ?_, ?_⟩ <;> go_simp
        · refine ⟨by simp; omega, ?_, ?_, ?_, ?_, ?_, ?_, ?_, ?_⟩ <;> go_simp
        · refine ⟨by simp; omega, ?_, ?_, ?_, ?_, ?_, ?_, ?_, ?_⟩ <;> go_simp
      case measure => simp [intOf]
end
theorem p1024 (i : Nat) : (1024 : Nat) ^ i = 2 ^ (10 * i) := by rw [Nat.pow_mul]
theorem dpck_any (C : Nat) (n : Int) (w : World) (hC : C < 2 ^ 256) : Calls Try.prog 15 #[A4 C, .int .i64 n] w fun r w' => r = .returned (.tuple #[A4 (dPv C n), .int .i64 (dPe C n)]) ∧ Below w.heap.size w w' := by
  unfold dPv dPe
  by_cases h : 0 ≤ n ∧ n ≤ 11
  · obtain ⟨c, rfl⟩ := Int.eq_ofNat_of_zero_le h.1
    have hc : c ≤ 11 := by omega
    rw [if_pos h, if_pos h, Int.toNat_natCast]
    have hA : ∀ i, C / 1000 ^ i < 2 ^ 256 := fun i => Nat.lt_of_le_of_lt (Nat.div_le_self _ _) hC
    have hL0 := len4_zero (hA c)
    have hL1 : 0 ≤ lenL (W4 (C / 1000 ^ c)) 4 := by
      by_cases h0 : 0 < sizeL (W4 (C / 1000 ^ c)) 4
      · obtain ⟨L, h1, _⟩ := len_bd (W4_words _) h0
        omega
      · unfold lenL; rw [if_pos (by omega)]; exact Int.le_refl _
    refine dpck_w C c w (fun i => C / 1000 ^ i) (fun i => dlP i C) (fun i => C / 1000 ^ i % 1000) (fun i => dlE (C / 1000 ^ i % 1000)) (fun i => dlE (C / 1000 ^ i % 1000) * 2 ^ (10 * i)) (fun i => (((dlP i C + dlE (C / 1000 ^ i % 1000) * 2 ^ (10 * i)) / 2 ^ 256 : Nat) : Int)) (lenL (W4 (C / 1000 ^ c)) 4) hc ?_ ?_ ?_ ?_ ?_ ?_ ?_ ?_ (fun W => len4' _ W) (by simp) rfl _ _ ?_
    · intro W
      have := known_v (c : Int) W
      rw [decide_eq_true h] at this
      exact this
    · intro i hi W
      have := div4 (C / 1000 ^ i) 1000 W (hA i) (by decide) (by decide)
      rw [Nat.div_div_eq_div_mul, ← Nat.pow_succ] at this
      exact this
    · intro i
      exact Nat.mod_lt _ (by decide)
    · intro i W
      exact denc_v _ (Nat.mod_lt _ (by decide)) W
    · intro i
      exact (dl_back _ (Nat.mod_lt _ (by decide))).2
    · intro i W
      have := (dl_back (C / 1000 ^ i % 1000) (Nat.mod_lt _ (by decide))).2
      exact of4 _ W (by omega)
    · intro i hi W
      have h2 := (dl_back (C / 1000 ^ i % 1000) (Nat.mod_lt _ (by decide))).2
      have := shl4 (dlE (C / 1000 ^ i % 1000)) (10 * i) W (Nat.lt_trans h2 (by decide)) (by omega)
      rw [show ((10 * i : Nat) : Int) = 10 * (i : Int) by omega] at this
      exact this
    · intro i hi W
      have e := dlP_snoc i C
      rw [p1024] at e
      have h1 := dlP_256 (i + 1) C (by omega)
      have := add4 (dlP i C) (dlE (C / 1000 ^ i % 1000) * 2 ^ (10 * i)) W (by omega) (by omega)
      rw [show A4 (dlP i C + dlE (C / 1000 ^ i % 1000) * 2 ^ (10 * i)) = A4 (dlP (i + 1) C) by rw [e]] at this
      exact this
    · by_cases hlt : C < 1000 ^ c
      · rw [if_pos hlt, if_pos hlt]
        exact Or.inl ⟨by rw [hL0.2 (Nat.div_eq_of_lt hlt)]; decide, rfl, rfl⟩
      · rw [if_neg hlt, if_neg hlt]
        have h1 : C / 1000 ^ c ≠ 0 := by
          have := (Nat.le_div_iff_mul_le (Nat.pow_pos (n := c) (show 0 < 1000 by decide))).2 (show 1 * 1000 ^ c ≤ C by omega)
          omega
        have h2 : lenL (W4 (C / 1000 ^ c)) 4 ≠ 0 := fun e => h1 (hL0.1 e)
        exact Or.inr ⟨by omega, rfl, rfl⟩
  · rw [if_neg h, if_neg h]
    refine dpck_n C n w fun W => ?_
    have := known_v n W
    rw [decide_eq_false h] at this
    exact this
theorem dupk_any (B : Nat) (n : Int) (w : World) (hB : B < 2 ^ 256) : Calls Try.prog 17 #[A4 B, .int .i64 n] w fun r w' => r = .returned (.tuple #[A4 (dUv B n), .int .i64 (dUe B n)]) ∧ Below w.heap.size w w' := by
  unfold dUv dUe
  by_cases h : 0 ≤ n ∧ n ≤ 11
  · obtain ⟨c, rfl⟩ := Int.eq_ofNat_of_zero_le h.1
    have hc : c ≤ 11 := by omega
    rw [if_pos h, if_pos h, Int.toNat_natCast]
    have hk : ∀ W, Calls Try.prog 24 #[.int .i64 (c : Int)] W fun r w' => r = .returned (.bool true) ∧ W = w' := fun W => by
      have := known_v (c : Int) W
      rw [decide_eq_true h] at this
      exact this
    have hL := len4_le (k := 10 * c) hB
    rw [← p1024] at hL
    by_cases hlt : B < 1024 ^ c
    · rw [if_pos hlt, if_pos hlt]
      have hU : ∀ k, dlU (c - k) (B / 1024 ^ k) < 1000 ^ 11 := fun k => Nat.lt_of_lt_of_le (dlU_lt _ _) (Nat.pow_le_pow_right (by decide) (by omega))
      have e11 : (1000 : Nat) ^ 11 = 1000000000000000000000000000000000 := by decide
      have e256 : (2 : Nat) ^ 256 = 115792089237316195423570985008687907853269984665640564039457584007913129639936 := by decide
      have := dupk_w B c w (lenL (W4 B) 4) hc hk (fun W => len4' _ W) (fun k => dlU (c - k) (B / 1024 ^ k)) (fun k => B / 1024 ^ k % 1024) (fun k => dlD (B / 1024 ^ k % 1024)) (fun k => B / 2 ^ (10 * k)) (fun k => dlU (c - (k + 1)) (B / 1024 ^ (k + 1)) * 1000) (fun k => (((dlU (c - (k + 1)) (B / 1024 ^ (k + 1)) * 1000 + dlD (B / 1024 ^ k % 1024)) / 2 ^ 256 : Nat) : Int)) (fun k => ((dlU (c - (k + 1)) (B / 1024 ^ (k + 1)) * 1000 / 2 ^ 256 : Nat) : Int)) (fun k hk W => ?_) (fun k => ?_) (fun k W => ?_) (fun k => ?_) (fun k hk W => ?_) (fun k W => ?_) (fun k hk W => ?_) (by rw [Nat.sub_self]; rfl) (by have := hL.2 hlt; omega)
      · simp only [Nat.sub_zero, Nat.pow_zero, Nat.div_one] at this
        exact this
      · have := shr4 B (10 * k) W hB (by omega)
        rw [show ((10 * k : Nat) : Int) = 10 * (k : Int) by omega] at this
        exact this
      · refine ⟨?_, Nat.mod_lt _ (by decide), (W4_words _ 0).1⟩
        unfold W4
        rw [← p1024, Nat.mul_zero, Nat.pow_zero, Nat.div_one]
        omega
      · exact ddcd_v _ (Nat.mod_lt _ (by decide)) W
      · exact (dl_means _ (Nat.mod_lt _ (by decide))).1
      · have h1 := hU (k + 1)
        exact mul4 _ 1000 W (by omega) (by decide)
      · have := (dl_means (B / 1024 ^ k % 1024) (Nat.mod_lt _ (by decide))).1
        exact of4 _ W (by omega)
      · have h1 := hU (k + 1)
        have h2 := (dl_means (B / 1024 ^ k % 1024) (Nat.mod_lt _ (by decide))).1
        have e := dlU_step (c - (k + 1)) (B / 1024 ^ k)
        rw [Nat.div_div_eq_div_mul, ← Nat.pow_succ, show c - (k + 1) + 1 = c - k by omega] at e
        have := add4 (dlU (c - (k + 1)) (B / 1024 ^ (k + 1)) * 1000) (dlD (B / 1024 ^ k % 1024)) W (by omega) (by omega)
        rw [show A4 (dlU (c - (k + 1)) (B / 1024 ^ (k + 1)) * 1000 + dlD (B / 1024 ^ k % 1024)) = A4 (dlU (c - k) (B / 1024 ^ k)) by rw [e]] at this
        exact this
    · rw [if_neg hlt, if_neg hlt]
      exact dupk_l B c w (lenL (W4 B) 4) hc hk (fun W => len4' _ W) (by
        have : ¬ lenL (W4 B) 4 ≤ ((10 * c : Nat) : Int) := fun q => hlt (hL.1 q)
        omega)
  · rw [if_neg h, if_neg h]
    refine dupk_n B n w fun W => ?_
    have := known_v n W
    rw [decide_eq_false h] at this
    exact this
end Go.Proofs.Ytpgihikbdmmdpaa

namespace Go.Proofs.Ytpgihikbdmmdpaa
open Go.RowKit

/-- how many bits a number has -/
def bl (V : Nat) : Nat := if V = 0 then 0 else Nat.log2 V + 1
theorem bl_le {V k : Nat} : bl V ≤ k ↔ V < 2 ^ k := by
  unfold bl
  by_cases h : V = 0
  · subst h; simp; exact Nat.two_pow_pos k
  · rw [if_neg h]
    have := Nat.log2_lt h (k := k)
    omega
theorem bl_ge {V k : Nat} : k < bl V ↔ 2 ^ k ≤ V := by
  have := bl_le (V := V) (k := k)
  omega
theorem bl_eq {V L : Nat} (h1 : 2 ^ (L - 1) ≤ V) (h2 : V < 2 ^ L) : bl V = L := by
  have a := bl_le.2 h2
  by_cases h : L = 0
  · omega
  · have b := bl_ge.2 h1
    omega
/-- a number in a list of words, at most K of them -/
def Nt (K V : Nat) (v : Value) (w : World) : Prop := ∃ a k cap z, v = .slice a k cap ∧ k ≤ K ∧ Num w a k cap z ∧ val z k = (V : Int)
theorem Nt.next {K V : Nat} {v : Value} {w w' : World} (h : Nt K V v w) (hb : Below w.heap.size w w') : Nt K V v w' := by
  obtain ⟨a, k, cap, z, h1, h2, h3, h4⟩ := h
  exact ⟨a, k, cap, z, h1, h2, h3.next hb, h4⟩
/-- without noughts at its end -/
def Nz (K V : Nat) (v : Value) (w : World) : Prop := ∃ a k cap z, v = .slice a k cap ∧ k ≤ K ∧ Num w a k cap z ∧ val z k = (V : Int) ∧ sizeL z k = k
theorem Nz.next {K V : Nat} {v : Value} {w w' : World} (h : Nz K V v w) (hb : Below w.heap.size w w') : Nz K V v w' := by
  obtain ⟨a, k, cap, z, h1, h2, h3, h4, h5⟩ := h
  exact ⟨a, k, cap, z, h1, h2, h3.next hb, h4, h5⟩
theorem size_zero {z : Nat → Int} {k V : Nat} (hz : Words z) (hv : val z k = (V : Int)) : sizeL z k = 0 ↔ V = 0 := by
  constructor
  · intro h
    have := val_bare (x := z) k
    rw [h] at this
    have h0 : val z 0 = 0 := rfl
    omega
  · intro h
    subst h
    rcases Nat.eq_zero_or_pos (sizeL z k) with h | h
    · exact h
    · exfalso
      have := val_longer (x := z) (y := z) hz hz (n := 0) (m := sizeL z k) h (sizeL_sizeL z k)
      rw [val_bare] at this
      have h0 : val z 0 = 0 := rfl
      omega
theorem len_bl {z : Nat → Int} {k V : Nat} (hz : Words z) (hv : val z k = (V : Int)) : lenL z k = (bl V : Int) := by
  rcases Nat.eq_zero_or_pos (sizeL z k) with h | h
  · have h0 := (size_zero hz hv).1 h
    unfold lenL; rw [if_pos h, h0]; rfl
  · obtain ⟨L, h1, h2, h3⟩ := len_bd hz h
    rw [hv] at h2 h3
    have e : bl V = L + 1 := by
      have e1 : ((2 : Int) ^ L) = ((2 ^ L : Nat) : Int) := by simp
      have e2 : ((2 : Int) ^ (L + 1)) = ((2 ^ (L + 1) : Nat) : Int) := by simp
      rw [e1] at h2
      rw [e2] at h3
      exact bl_eq (by rw [Nat.add_sub_cancel]; omega) (by omega)
    rw [e, h1]; omega
end Go.Proofs.Ytpgihikbdmmdpaa

namespace Go.Proofs.Ytpgihikbdmmdpaa
open Go.RowKit

set_option maxHeartbeats 1000000 in
theorem radd_tr (a a' : Option Addr) (n c n' c' : Nat) (x y : Nat → Int) (w : World) (hn : n < 4294967290) (hn' : n' < 4294967290) (h : Num w a n c x) (h' : Num w a' n' c' y) :
    Calls Try.prog 38 #[.slice a n c, .slice a' n' c'] w fun e w' => ∃ g k cap, e = .returned (.slice (some ⟨g, 0, none⟩) k cap) ∧ k ≤ max n n' + 1 ∧ Num w' (some ⟨g, 0, none⟩) k cap (sumW x y) ∧ Below w.heap.size w w' ∧ sizeL (sumW x y) k = k := by
  have hx := h.2.2.1
  have hy := h'.2.2.1
  have zx := h.2.2.2.1
  have zy := h'.2.2.2.1
  obtain ⟨M, hM⟩ : ∃ M, max n n' + 1 = M := ⟨_, rfl⟩
  have hMi : max (n : Int) n' + 1 = (M : Int) := by omega
  have hMb : M < 4294967292 := by omega
  have hmk := fun w => make_any (max (n : Int) n' + 1) M hMi (by omega) w
  have hfin : ∀ (ss : Array Value), ss.size = M → (∀ j h, ss[j]'h = Value.int .u64 (sumW x y j)) → Num (w.alloc (.cells ss 30)) (some ⟨w.heap.size, 0, none⟩) M M (sumW x y) := fun ss h1 h2 => num_of_block (by omega) (sumW_words x y) (fun i hi => sumW_zero (n := max n n') hx hy (fun i hi => zx i (by omega)) (fun i hi => zy i (by omega)) i (by omega)) h1 (fun j hj => by rw [h2 j hj])
  have hw1 := fun (i : Nat) (ss : Array Value) => word_any a n c i x (w.alloc (.cells ss 30)) (h.next (below1 w _))
  have hw2 := fun (i : Nat) (ss : Array Value) => word_any a' n' c' i y (w.alloc (.cells ss 30)) (h'.next (below1 w _))
  have HM : Hid (max n n' + 1 = M) := hM
  have HZ : Hid ((arrOf (fun _ => 0) M).size = M ∧ ∀ j h, (arrOf (fun _ => 0) M)[j]'h = Value.int .u64 0) := ⟨arrOf_size _ _, fun j h => arrOf_get _ _ _ _⟩
  clear h h' zx zy hM hMi
  generalize arrOf (fun _ => 0) M = zz at *
  go_enter Try.func38, Try.ntmps38
  go_wp2
  go_loopw [6, 7, 17, 20] (fun c u7 i u20 wr => ∃ (k : Nat) (ss : Array Value), k ≤ M ∧ i = .int .i64 k ∧ c = .int .u64 (carryW x y k) ∧ ss.size = M ∧ (∀ j h, ss[j]'h = Value.int .u64 (if j < k then sumW x y j else 0)) ∧ wr = w.alloc (.cells ss 30)) (fun _ _ i _ _ => M - (intOf i).toNat)
  case atStart => exact ⟨0, zz, Nat.zero_le _, rfl, rfl, HZ.out.1, fun j h => by rw [HZ.out.2 j h]; simp, rfl⟩
  case round =>
    obtain ⟨k, ss, hk, rfl, rfl, hsz, hss, rfl⟩ := hrel
    have hcar := carryW_01 hx hy k
    by_cases h8 : k < M
    · have h8i : (k : Int) < M := by omega
      have h8s : k < ss.size := by omega
      have bx := hx k
      have b_y := hy k
      have hsk : ss[k]? = some (.int .u64 0) := by rw [Array.getElem?_eq_getElem h8s, hss k h8s, if_neg (by omega)]
      have hadd := fun w => add64 (x k) (y k) (carryW x y k) bx.1 b_y.1 hcar.1 hcar.2 w
      have hwa := hw1 k ss
      have hwb := hw2 k ss
      have HR : Hid (∀ (i : Nat) (h : i < (ss.setIfInBounds k (.int .u64 (sumW x y k))).size), (ss.setIfInBounds k (.int .u64 (sumW x y k)))[i]'h = Value.int .u64 (if i < k + 1 then sumW x y i else 0)) := set_next hss
      clear hss hw1 hw2 hfin hmk hx hy
      go_wp2_with (first | (go_at_call_of 41 (Value.slice a n c); refine hwa.mono ?_; rintro e w' ⟨rfl, rfl⟩) | (go_at_call_of 41 (Value.slice a' n' c'); refine hwb.mono ?_; rintro e w' ⟨rfl, rfl⟩))
      go_roundw
      case rel => exact ⟨k + 1, ss.setIfInBounds k (.int .u64 (sumW x y k)), by omega, by go_num, rfl, by simp [hsz], HR.out, rfl⟩
      case measure => simp [intOf]; omega
    · obtain rfl : k = M := by omega
      have hss' : ∀ j h, ss[j]'h = Value.int .u64 (sumW x y j) := by
        intro j h; rw [hss j h, if_pos (by omega)]
      have hT := trim_any _ _ _ _ _ (by omega) (hfin ss hsz hss')
      have hle := sizeL_le (sumW x y) k
      clear hss hss' hw1 hw2 hfin hmk hx hy
      go_wp2_with (go_at_call 47; refine hT.mono ?_; rintro e w1 ⟨g, cap, rfl, hN, hB⟩)
      go_ret
      exact ⟨g, _, cap, rfl, Nat.le_trans hle (Nat.le_of_eq HM.out.symm), hN, (below1 w _).trans (hB.mono (by simp)), sizeL_sizeL _ _⟩

theorem radd_vt (a a' : Option Addr) (n c n' c' : Nat) (x y : Nat → Int) (w : World) (hn : n < 4000000000) (hn' : n' < 4000000000) (h : Num w a n c x) (h' : Num w a' n' c' y) :
    Calls Try.prog 38 #[.slice a n c, .slice a' n' c'] w fun e w' => ∃ g k cap z, e = .returned (.slice (some ⟨g, 0, none⟩) k cap) ∧ k ≤ max n n' + 1 ∧ Num w' (some ⟨g, 0, none⟩) k cap z ∧ val z k = val x n + val y n' ∧ Below w.heap.size w w' ∧ sizeL z k = k := by
  refine (radd_tr a a' n c n' c' x y w (by omega) (by omega) h h').mono fun e w' ⟨g, k, cap, e1, hk, hN, hB, ht⟩ => ⟨g, k, cap, _, e1, hk, hN, ?_, hB, ht⟩
  have e := sum_val (x := x) (y := y) (max n n' + 1)
  rw [sum_end h.2.2.1 h'.2.2.1 h.2.2.2.1 h'.2.2.2.1 (by omega) (by omega), val_more h.2.2.2.1 _ (by omega), val_more h'.2.2.2.1 _ (by omega), val_more hN.2.2.2.1 _ hk] at e
  omega
end Go.Proofs.Ytpgihikbdmmdpaa
