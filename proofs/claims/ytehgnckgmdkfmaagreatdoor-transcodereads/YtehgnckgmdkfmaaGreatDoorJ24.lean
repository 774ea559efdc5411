/-
  Texts that the proof leans on.
-/
import Derived.Test.YtehgnckgmdkfmaaGreatDoorJ19
import Derived.Test.YtehgnckgmdkfmaaGreatDoorJ3
import Derived.Test.YtehgnckgmdkfmaaGreatDoorJ21
import Derived.Test.YtehgnckgmdkfmaaGreatDoorJ17
import Derived.Test.YtehgnckgmdkfmaaGreatDoorJ14
import Derived.Deep.MidRow
set_option linter.unusedVariables false
set_option linter.unusedSectionVars false
set_option linter.unusedSimpArgs false
set_option maxRecDepth 20000
namespace Go.Proofs.YtehgnckgmdkfmaaGreatDoor
open Go.RowKit
section
attribute [local irreducible] W4
section
variable (dn : Bool) (g t bl : Int) (wo co pa : Nat) (le mo : Int) (w : World)
set_option maxHeartbeats 2000000 in
theorem split_w (B Ab Sh Fr : Nat) (S E cr : Int)
    (c1 : ∀ W, Calls Tryz.prog 73 #[A4 B, .int .i64 t] W fun r w' => r = .returned (A4 Ab) ∧ Below W.heap.size W w')
    (c2 : ∀ W, Calls Tryz.prog 55 #[A4 Ab, .int .i64 t] W fun r w' => r = .returned (A4 Sh) ∧ Below W.heap.size W w')
    (c3 : ∀ W, Calls Tryz.prog 74 #[A4 B, A4 Sh] W fun r w' => r = .returned (.tuple #[A4 Fr, .int .u64 cr]) ∧ Below W.heap.size W w')
    (c4 : ∀ W, Calls Tryz.prog 75 #[A4 Ab, .int .i64 g] W fun r w' => r = .returned (.int .u64 S) ∧ Below W.heap.size W w')
    (c5 : ∀ W, Calls Tryz.prog 76 #[.int .u64 (W4 Ab 0), .int .i64 g] W fun r w' => r = .returned (.int .u64 E) ∧ Below W.heap.size W w') :
    Calls Tryz.prog 43 #[LD dn g t bl wo co pa le mo, A4 B] w fun r w' => r = .returned (.tuple #[.bool (S == 1), .int .u64 E, A4 Fr]) ∧ Below w.heap.size w w' := by
  have hsm := cell_set_map
  go_enter Tryz.func43, Tryz.ntmps43
  go_wp2_with (go_at_call 73; refine (c1 _).mono ?_; rintro r w1 ⟨rfl, hb1⟩; obtain ⟨hc1, hf1⟩ := bcell hb1; have hz1_0 : w.heap.size < w1.heap.size := lt_below hb1 ltg; have hl1_0 := Nat.le_of_lt hz1_0; have hz1_1 : w.heap.size + 1 < w1.heap.size := lt_below hb1 ltg; have hl1_1 := Nat.le_of_lt hz1_1; have hz1_2 : w.heap.size + 1 + 1 < w1.heap.size := lt_below hb1 ltg; have hl1_2 := Nat.le_of_lt hz1_2; have hA1 := bnext (w0 := w) bgo hb1; have hs1 := hA1.size; clear hb1)
  refine wp_tail 6 (by kernel_rfl) (by kernel_rfl) (by kernel_rfl) (fun _ _ d _ _ h => by cases d <;> exact h) fun hne hcell => ?_
  simp only [List.take_succ_cons, List.take_zero, List.drop_succ_cons, List.drop_zero]
  repeat go_big_quiet_step (fail)
  go_big_quiet_step ((go_at_call 55; exact calls_wd _ bk_next (c2 _)))
  repeat go_big_quiet_step (fail)
  go_big_quiet_step ((go_at_call 74; exact calls_wd _ bk_next (c3 _)))
  repeat go_big_quiet_step (fail)
  refine wpQuiet_nil fun w2 hb2 => ?_
  obtain ⟨hc2, hf2⟩ := bcell hb2; have hz2_0 : w.heap.size < w2.heap.size := lt_below hb2 ltg; have hl2_0 := Nat.le_of_lt hz2_0; have hz2_1 : w.heap.size + 1 < w2.heap.size := lt_below hb2 ltg; have hl2_1 := Nat.le_of_lt hz2_1; have hz2_2 : w.heap.size + 1 + 1 < w2.heap.size := lt_below hb2 ltg; have hl2_2 := Nat.le_of_lt hz2_2; have hz2_3 : w1.heap.size < w2.heap.size := lt_below hb2 ltg; have hl2_3 := Nat.le_of_lt hz2_3; have hA2 := bnext (w0 := w) bgo hb2; have hs2 := hA2.size; clear hb2
  go_wp2
  refine wp_tail 13 (by kernel_rfl) (by kernel_rfl) (by kernel_rfl) (fun _ _ d _ _ h => by cases d <;> exact h) fun hne hcell => ?_
  simp only [List.take_succ_cons, List.take_zero, List.drop_succ_cons, List.drop_zero]
  repeat go_big_quiet_step (fail)
  go_big_quiet_step ((go_at_call 75; exact calls_wd _ bk_next (c4 _)))
  repeat go_big_quiet_step (fail)
  go_big_quiet_step ((go_at_call 76; exact calls_wd _ bk_next (c5 _)))
  repeat go_big_quiet_step (fail)
  refine wpQuiet_nil fun w3 hb3 => ?_
  obtain ⟨hc3, hf3⟩ := bcell hb3; have hz3_0 : w.heap.size < w3.heap.size := lt_below hb3 ltg; have hl3_0 := Nat.le_of_lt hz3_0; have hz3_1 : w.heap.size + 1 < w3.heap.size := lt_below hb3 ltg; have hl3_1 := Nat.le_of_lt hz3_1; have hz3_2 : w.heap.size + 1 + 1 < w3.heap.size := lt_below hb3 ltg; have hl3_2 := Nat.le_of_lt hz3_2; have hz3_3 : w1.heap.size < w3.heap.size := lt_below hb3 ltg; have hl3_3 := Nat.le_of_lt hz3_3; have hA3 := bnext (w0 := w) bgo hb3; have hs3 := hA3.size; clear hb3
  go_wp2
  exact bodyPost_ret (v := .tuple #[.bool (S == 1), .int .u64 E, A4 Fr]) (by simp only [results, Tryz.results43]; go_simp) rfl ⟨rfl, bgo⟩
end
section
variable (dn : Bool) (g t bl : Int) (wo co pa : Nat) (le mo : Int) (w : World) (E0 E : Int) (s : Bool) (F En Sh J : Nat) (cr : Int)
  (c49 : ∀ w, Calls Tryz.prog 56 #[.int .u64 E] w fun x w' => x = .returned (A4 En) ∧ Below w.heap.size w w')
  (c45 : ∀ w, Calls Tryz.prog 55 #[A4 En, .int .i64 t] w fun x w' => x = .returned (A4 Sh) ∧ Below w.heap.size w w')
  (c22 : ∀ w, Calls Tryz.prog 50 #[A4 Sh, A4 F] w fun x w' => x = .returned (.tuple #[A4 J, .int .u64 cr]) ∧ Below w.heap.size w w')
include c49 c45 c22
set_option maxHeartbeats 2000000 in
theorem djoin_n : Calls Tryz.prog 81 #[LD dn g t bl wo co pa le mo, .bool false, .int .u64 E, A4 F] w fun x w' => x = .returned (A4 J) ∧ Below w.heap.size w w' := by
  have hsm := cell_set_map
  go_enter Tryz.func81, Tryz.ntmps81
  go_wp2
  refine wp_made 7 10 9 #[.int .u64 0, .int .u64 0, .int .u64 0, .int .u64 0] (by kernel_rfl) (by kernel_rfl) (by kernel_rfl) rfl (fun oa hoa a w => ?_) (by kernel_rfl) (by kernel_rfl) rfl rfl (fun _ _ d _ _ h => by cases d <;> exact h) ?_
  · cases hoa; exact ⟨23, by simp [go_sem]⟩
  apply Exists.intro
  refine ⟨fun al hne hcell => ?_, fun w1 hb1 => ?_, fun g w1 hb1 hg0 hg1 hg2 hg3 => ?_⟩
  · simp only [List.take_succ_cons, List.take_zero]
    repeat go_big_quiet_step (fail)
    go_big_quiet_step ((go_at_call 56; exact calls_wd _ al_next (c49 _)))
    repeat go_big_quiet_step (fail)
    go_big_quiet_step ((go_at_call 55; exact calls_wd _ al_next (c45 _)))
    repeat go_big_quiet_step (fail)
    go_big_quiet_step ((go_at_call 50; exact calls_wd _ al_next (c22 _)))
    exact wpQuiet_nil rfl
  · simp only [List.drop_succ_cons, List.drop_zero]
    obtain ⟨hc1, hf1⟩ := bcell hb1; have hz1_0 : w.heap.size < w1.heap.size := lt_below hb1 ltg; have hl1_0 := Nat.le_of_lt hz1_0; have hz1_1 : w.heap.size + 1 < w1.heap.size := lt_below hb1 ltg; have hl1_1 := Nat.le_of_lt hz1_1; have hz1_2 : w.heap.size + 1 + 1 < w1.heap.size := lt_below hb1 ltg; have hl1_2 := Nat.le_of_lt hz1_2; have hA1 := bnext (w0 := w) bgo hb1; have hs1 := hA1.size; clear hb1
    go_wp2
    exact bodyPost_ret (v := A4 J) (by simp only [results, Tryz.results81]; go_simp) rfl ⟨rfl, bgo⟩
  · simp only [List.drop_succ_cons, List.drop_zero, Nat.reduceSub, List.eraseIdx_cons_succ, List.eraseIdx_cons_zero]
    simp only [World.size_alloc] at hg0
    have hz0 : g ≠ w.heap.size := by omega
    have hz1 : g ≠ w.heap.size + 1 := by omega
    have hz2 : g ≠ w.heap.size + 1 + 1 := by omega
    obtain ⟨hc1, hf1⟩ := bcell hb1; have hz1_0 : w.heap.size < w1.heap.size := lt_below hb1 ltg; have hl1_0 := Nat.le_of_lt hz1_0; have hz1_1 : w.heap.size + 1 < w1.heap.size := lt_below hb1 ltg; have hl1_1 := Nat.le_of_lt hz1_1; have hz1_2 : w.heap.size + 1 + 1 < w1.heap.size := lt_below hb1 ltg; have hl1_2 := Nat.le_of_lt hz1_2; have hA1 := bnext (w0 := w) bgo hb1; have hs1 := hA1.size; clear hb1
    go_wp2
    exact bodyPost_ret (v := A4 J) (by simp only [results, Tryz.results81]; go_simp) rfl ⟨rfl, bgo⟩
set_option maxHeartbeats 2000000 in
theorem djoin_s (n : Nat) (H : Int) (hg : g = (n : Int)) (hn : n ≤ 40) (hH : (2 : Int) ^ n = H) (hH0 : 1 ≤ H) (hH1 : H ≤ 1099511627776) (hE : bits .or .u64 E0 H = E) :
    Calls Tryz.prog 81 #[LD dn g t bl wo co pa le mo, .bool true, .int .u64 E0, A4 F] w fun x w' => x = .returned (A4 J) ∧ Below w.heap.size w w' := by
  have hsm := cell_set_map
  subst hg
  have hn0 : (0 : Int) ≤ (n : Int) := by omega
  have hn1 : (n : Int) ≤ 40 := by omega
  go_enter Tryz.func81, Tryz.ntmps81
  go_wp2
  refine wp_made 7 10 9 #[.int .u64 0, .int .u64 0, .int .u64 0, .int .u64 0] (by kernel_rfl) (by kernel_rfl) (by kernel_rfl) rfl (fun oa hoa a w => ?_) (by kernel_rfl) (by kernel_rfl) rfl rfl (fun _ _ d _ _ h => by cases d <;> exact h) ?_
  · cases hoa; exact ⟨23, by simp [go_sem]⟩
  apply Exists.intro
  refine ⟨fun al hne hcell => ?_, fun w1 hb1 => ?_, fun g w1 hb1 hg0 hg1 hg2 hg3 => ?_⟩
  · simp only [List.take_succ_cons, List.take_zero]
    repeat go_big_quiet_step (fail)
    go_big_quiet_step ((go_at_call 56; exact calls_wd _ al_next (c49 _)))
    repeat go_big_quiet_step (fail)
    go_big_quiet_step ((go_at_call 55; exact calls_wd _ al_next (c45 _)))
    repeat go_big_quiet_step (fail)
    go_big_quiet_step ((go_at_call 50; exact calls_wd _ al_next (c22 _)))
    exact wpQuiet_nil rfl
  · simp only [List.drop_succ_cons, List.drop_zero]
    obtain ⟨hc1, hf1⟩ := bcell hb1; have hz1_0 : w.heap.size < w1.heap.size := lt_below hb1 ltg; have hl1_0 := Nat.le_of_lt hz1_0; have hz1_1 : w.heap.size + 1 < w1.heap.size := lt_below hb1 ltg; have hl1_1 := Nat.le_of_lt hz1_1; have hz1_2 : w.heap.size + 1 + 1 < w1.heap.size := lt_below hb1 ltg; have hl1_2 := Nat.le_of_lt hz1_2; have hA1 := bnext (w0 := w) bgo hb1; have hs1 := hA1.size; clear hb1
    go_wp2
    exact bodyPost_ret (v := A4 J) (by simp only [results, Tryz.results81]; go_simp) rfl ⟨rfl, bgo⟩
  · simp only [List.drop_succ_cons, List.drop_zero, Nat.reduceSub, List.eraseIdx_cons_succ, List.eraseIdx_cons_zero]
    simp only [World.size_alloc] at hg0
    have hz0 : g ≠ w.heap.size := by omega
    have hz1 : g ≠ w.heap.size + 1 := by omega
    have hz2 : g ≠ w.heap.size + 1 + 1 := by omega
    obtain ⟨hc1, hf1⟩ := bcell hb1; have hz1_0 : w.heap.size < w1.heap.size := lt_below hb1 ltg; have hl1_0 := Nat.le_of_lt hz1_0; have hz1_1 : w.heap.size + 1 < w1.heap.size := lt_below hb1 ltg; have hl1_1 := Nat.le_of_lt hz1_1; have hz1_2 : w.heap.size + 1 + 1 < w1.heap.size := lt_below hb1 ltg; have hl1_2 := Nat.le_of_lt hz1_2; have hA1 := bnext (w0 := w) bgo hb1; have hs1 := hA1.size; clear hb1
    go_wp2
    exact bodyPost_ret (v := A4 J) (by simp only [results, Tryz.results81]; go_simp) rfl ⟨rfl, bgo⟩
end
set_option maxHeartbeats 1000000 in
theorem nought_v (A B : Nat) (w : World) (hA : A < 2 ^ 256) (hB : B < 2 ^ 256) : Calls Tryz.prog 46 #[A4 A, A4 B] w fun r w' => r = .returned (A4 (if A < B then A else 0)) ∧ Below w.heap.size w w' := by
  have c := fun W => cmp4 A B W hA hB
  have hsm := cell_set_map
  by_cases h : A < B
  · rw [if_pos h]
    rw [show sgn (A : Int) (B : Int) = -1 by unfold sgn; rw [if_pos (by omega)]] at c
    clear hA hB h
    go_enter Tryz.func46, Tryz.ntmps46
    go_wp2_with (go_at_call 77; refine (c _).mono ?_; rintro r w1 ⟨rfl, hb1⟩; obtain ⟨hc1, hf1⟩ := bcell hb1; have hz1_0 : w.heap.size < w1.heap.size := lt_below hb1 ltg; have hl1_0 := Nat.le_of_lt hz1_0; have hz1_1 : w.heap.size + 1 < w1.heap.size := lt_below hb1 ltg; have hl1_1 := Nat.le_of_lt hz1_1; have hz1_2 : w.heap.size + 1 + 1 < w1.heap.size := lt_below hb1 ltg; have hl1_2 := Nat.le_of_lt hz1_2; have hA1 := bnext (w0 := w) bgo hb1; have hs1 := hA1.size; clear hb1)
    exact bodyPost_ret (v := A4 A) (by simp only [results, Tryz.results46]; go_simp) rfl ⟨rfl, bgo⟩
  · rw [if_neg h]
    have hs : 0 ≤ sgn (A : Int) (B : Int) := by unfold sgn; rw [if_neg (by omega)]; split <;> decide
    generalize sgn (A : Int) (B : Int) = q at *
    clear hA hB h
    go_enter Tryz.func46, Tryz.ntmps46
    go_wp2_with (go_at_call 77; refine (c _).mono ?_; rintro r w1 ⟨rfl, hb1⟩; obtain ⟨hc1, hf1⟩ := bcell hb1; have hz1_0 : w.heap.size < w1.heap.size := lt_below hb1 ltg; have hl1_0 := Nat.le_of_lt hz1_0; have hz1_1 : w.heap.size + 1 < w1.heap.size := lt_below hb1 ltg; have hl1_1 := Nat.le_of_lt hz1_1; have hz1_2 : w.heap.size + 1 + 1 < w1.heap.size := lt_below hb1 ltg; have hl1_2 := Nat.le_of_lt hz1_2; have hA1 := bnext (w0 := w) bgo hb1; have hs1 := hA1.size; clear hb1)
    exact bodyPost_ret (v := A4 0) (by rw [Z4_eq]; simp only [results, Tryz.results46]; go_simp) rfl ⟨rfl, bgo⟩
set_option maxHeartbeats 1000000 in
theorem dten_w (n : Nat) (w : World) (P : Nat → Nat) (cr : Nat → Int) (hn : n ≤ 60) (hP : P 0 = 1)
    (c1 : ∀ W, Calls Tryz.prog 56 #[.int .u64 1] W fun r w' => r = .returned (A4 1) ∧ Below W.heap.size W w')
    (cm : Hid (∀ i W, Calls Tryz.prog 49 #[A4 (P i), .int .u64 10] W fun r w' => r = .returned (.tuple #[A4 (P (i + 1)), .int .u64 (cr i)]) ∧ Below W.heap.size W w')) :
    Calls Tryz.prog 54 #[.int .i64 (n : Int)] w fun r w' => r = .returned (A4 (P n)) ∧ Below w.heap.size w w' := by
  have hsm := cell_set_map
  go_enter Tryz.func54, Tryz.ntmps54
  go_wp2_with (go_at_call 56; refine (c1 _).mono ?_; rintro r w1 ⟨rfl, hb1⟩; obtain ⟨hc1, hf1⟩ := bcell hb1; have hz1_0 : w.heap.size < w1.heap.size := lt_below hb1 ltg; have hl1_0 := Nat.le_of_lt hz1_0; have hA1 := bnext (w0 := w) bgo hb1; have hs1 := hA1.size; clear hb1)
  go_loopw [6, 7, 8, 9, 10, 11, 12, 13] (fun t _ _ _ _ _ _ _ wr => ∃ (i : Nat), i ≤ n ∧ t = .int .i64 (i : Int) ∧ C4 w1.heap.size (P i) wr ∧ C4 w.heap.size 0 wr ∧ Below w.heap.size w wr) (fun t _ _ _ _ _ _ _ _ => n - (intOf t).toNat)
  case atStart =>
    refine ⟨0, Nat.zero_le _, rfl, ?_, ?_, bgo⟩
    · rw [hP]; refine ⟨by simp, ?_, ?_, ?_, ?_, ?_, ?_, ?_, ?_⟩ <;> go_simp
    · refine ⟨by simp; omega, ?_, ?_, ?_, ?_, ?_, ?_, ?_, ?_⟩ <;> first | (rw [W4_zero]; go_simp) | go_simp
  case round =>
    obtain ⟨i, hi, rfl, h3, h4, hbw⟩ := hrel
    have hl3 := h3.lt
    have hl4 := h4.lt
    obtain ⟨_, o0, o1, o2, o3, g0, g1, g2, g3⟩ := id h3
    obtain ⟨_, p0, p1, p2, p3, f0, f1, f2, f3⟩ := id h4
    by_cases hic : i < n
    · have hl : (i : Int) < (n : Int) := by omega
      have hl' : (i : Int) ≤ 60 := by omega
      have dm := cm.out i
      generalize P i = Pi at *
      go_wp2_with (go_at_call 49; refine (dm _).mono ?_; rintro r w2 ⟨rfl, hb2⟩; have hn3 := h3.next hb2; have hn4 := h4.next hb2; obtain ⟨hc2, hf2⟩ := bcell hb2; have hz2_0 : w.heap.size < w2.heap.size := lt_below hb2 ltg; have hl2_0 := Nat.le_of_lt hz2_0; have hz2_1 : w1.heap.size < w2.heap.size := lt_below hb2 ltg; have hl2_1 := Nat.le_of_lt hz2_1; have hA2 := bnext (w0 := w) bgo hb2; have hs2 := hA2.size; clear hb2)
      go_roundw
      case rel => exact ⟨i + 1, by omega, by go_num, hn3.put, hn4.other (by omega), bgo⟩
      case measure => simp [intOf]; omega
    · have hl : ¬ (i : Int) < (n : Int) := by omega
      obtain rfl : i = n := by omega
      go_wp2
      exact bodyPost_ret (v := A4 (P i)) (by simp only [results, Tryz.results54]; go_simp) rfl ⟨rfl, bgo⟩
theorem dten_v (n : Nat) (w : World) (hn : n ≤ 60) : Calls Tryz.prog 54 #[.int .i64 (n : Int)] w fun r w' => r = .returned (A4 (10 ^ n)) ∧ Below w.heap.size w w' := by
  refine (dten_w n w (fun i => 10 ^ i % 2 ^ 256) (fun i => ((10 ^ i % 2 ^ 256 * 10 / 2 ^ 256 : Nat) : Int)) hn rfl (fun W => of4 1 W (by decide)) ?_).mono ?_
  · show ∀ _, _
    intro i W
    refine (mul4 (10 ^ i % 2 ^ 256) 10 W (Nat.mod_lt _ (by decide)) (by decide)).mono ?_
    rintro r w' ⟨rfl, hb⟩
    refine ⟨?_, hb⟩
    show Ending.returned (.tuple #[A4 (10 ^ i % 2 ^ 256 * 10), _]) = Ending.returned (.tuple #[A4 (10 ^ (i + 1) % 2 ^ 256), _])
    rw [A4_mod (10 ^ (i + 1)), ← A4_mod (10 ^ i % 2 ^ 256 * 10), Nat.mod_mul_mod, A4_mod, show 10 ^ (i + 1) = 10 ^ i * 10 from Nat.pow_succ _ _]
  · rintro r w' ⟨rfl, hb⟩
    refine ⟨?_, hb⟩
    show Ending.returned (A4 (10 ^ n % 2 ^ 256)) = _
    rw [A4_mod]
section
variable (g t bl : Int) (wo co pa : Nat) (le mo : Int) (w : World)
set_option maxHeartbeats 1000000 in
theorem read_p (R : Nat) : Calls Tryz.prog 47 #[LD false g t bl wo co pa le mo, A4 R] w fun r w' => r = .returned (A4 R) ∧ Below w.heap.size w w' := by
  have hsm := cell_set_map
  go_enter Tryz.func47, Tryz.ntmps47
  go_wp2
  exact bodyPost_ret (v := A4 R) (by simp only [results, Tryz.results47]; go_simp) rfl ⟨rfl, bgo⟩
set_option maxHeartbeats 1000000 in
theorem read_d (R U : Nat) (E j : Int) (ht0 : 0 ≤ t) (ht1 : t ≤ 256) (hj : t / 10 = j)
    (c : ∀ W, Calls Tryz.prog 78 #[A4 R, .int .i64 j] W fun r w' => r = .returned (.tuple #[A4 U, .int .i64 E]) ∧ Below W.heap.size W w') :
    Calls Tryz.prog 47 #[LD true g t bl wo co pa le mo, A4 R] w fun r w' => r = .returned (A4 U) ∧ Below w.heap.size w w' := by
  have hsm := cell_set_map
  go_enter Tryz.func47, Tryz.ntmps47
  go_wp2_with (go_at_call 78; refine (c _).mono ?_; rintro r w1 ⟨rfl, hb1⟩; obtain ⟨hc1, hf1⟩ := bcell hb1; have hz1_0 : w.heap.size < w1.heap.size := lt_below hb1 ltg; have hl1_0 := Nat.le_of_lt hz1_0; have hz1_1 : w.heap.size + 1 < w1.heap.size := lt_below hb1 ltg; have hl1_1 := Nat.le_of_lt hz1_1; have hz1_2 : w.heap.size + 1 + 1 < w1.heap.size := lt_below hb1 ltg; have hl1_2 := Nat.le_of_lt hz1_2; have hA1 := bnext (w0 := w) bgo hb1; have hs1 := hA1.size; clear hb1)
  exact bodyPost_ret (v := A4 U) (by simp only [results, Tryz.results47]; go_simp) rfl ⟨rfl, bgo⟩
set_option maxHeartbeats 1000000 in
theorem write_p (R : Nat) : Calls Tryz.prog 83 #[LD false g t bl wo co pa le mo, A4 R] w fun r w' => r = .returned (A4 R) ∧ Below w.heap.size w w' := by
  have hsm := cell_set_map
  go_enter Tryz.func83, Tryz.ntmps83
  go_wp2
  exact bodyPost_ret (v := A4 R) (by simp only [results, Tryz.results83]; go_simp) rfl ⟨rfl, bgo⟩
set_option maxHeartbeats 1000000 in
theorem write_d (R U : Nat) (E j : Int) (ht0 : 0 ≤ t) (ht1 : t ≤ 256) (hj : t / 10 = j)
    (c : ∀ W, Calls Tryz.prog 102 #[A4 R, .int .i64 j] W fun r w' => r = .returned (.tuple #[A4 U, .int .i64 E]) ∧ Below W.heap.size W w') :
    Calls Tryz.prog 83 #[LD true g t bl wo co pa le mo, A4 R] w fun r w' => r = .returned (A4 U) ∧ Below w.heap.size w w' := by
  have hsm := cell_set_map
  go_enter Tryz.func83, Tryz.ntmps83
  go_wp2_with (go_at_call 102; refine (c _).mono ?_; rintro r w1 ⟨rfl, hb1⟩; obtain ⟨hc1, hf1⟩ := bcell hb1; have hz1_0 : w.heap.size < w1.heap.size := lt_below hb1 ltg; have hl1_0 := Nat.le_of_lt hz1_0; have hz1_1 : w.heap.size + 1 < w1.heap.size := lt_below hb1 ltg; have hl1_1 := Nat.le_of_lt hz1_1; have hz1_2 : w.heap.size + 1 + 1 < w1.heap.size := lt_below hb1 ltg; have hl1_2 := Nat.le_of_lt hz1_2; have hA1 := bnext (w0 := w) bgo hb1; have hs1 := hA1.size; clear hb1)
  exact bodyPost_ret (v := A4 U) (by simp only [results, Tryz.results83]; go_simp) rfl ⟨rfl, bgo⟩
end
end
section
/-- what stands in G below the lead -/
def vB (f : DF) : Nat := if f.dn then f.w else 0
/-- a format's layout -/
def LF (f : DF) : Value := LD f.dn ((f.w + 5 : Nat) : Int) (f.t : Int) (vB f : Int) (vQ f) (10 ^ (3 * f.j + 1)) (10 ^ (3 * f.j)) f.l (f.l + 3 * 2 ^ f.w - 1)
theorem DF.ok.w12 {f : DF} (h : f.ok) : 6 ≤ f.w ∧ f.w ≤ 12 ∧ f.t ≤ 110 ∧ 20 ≤ f.t ∧ f.j ≤ 11 := by
  rcases h with ⟨h1, h2, h3, h4⟩ | ⟨h1, h2, h3, h4⟩ | ⟨h1, h2, h3, h4⟩ <;> omega
theorem vQ_256 {f : DF} (h : f.ok) : vQ f < 2 ^ 128 := by
  unfold vQ
  rcases h with ⟨h1, h2, h3, h4⟩ | ⟨h1, h2, h3, h4⟩ | ⟨h1, h2, h3, h4⟩ <;> rw [h1, h3] <;> cases f.dn <;> decide
theorem ten_128 {f : DF} (h : f.ok) : 10 ^ (3 * f.j + 1) < 2 ^ 128 ∧ 10 ^ (3 * f.j) < 2 ^ 128 := by
  rcases h with ⟨h1, h2, h3, h4⟩ | ⟨h1, h2, h3, h4⟩ | ⟨h1, h2, h3, h4⟩ <;> rw [h3] <;> decide
theorem i2pow (n : Nat) : (2 : Int) ^ n = ((2 ^ n : Nat) : Int) := by simp
theorem i2div (x n : Nat) : (x : Int) / 2 ^ n = ((x / 2 ^ n : Nat) : Int) := by rw [i2pow, Int.natCast_ediv]
theorem i2mod (x n : Nat) : (x : Int) % 2 ^ n = ((x % 2 ^ n : Nat) : Int) := by rw [i2pow, Int.natCast_emod]
theorem beq_dec (x y : Nat) : (((x : Nat) : Int) == (y : Int)) = decide (x = y) := by
  by_cases h : x = y
  · subst h; simp
  · rw [decide_eq_false h]; simp; omega
section
variable {f : DF} (h : f.ok)
include h
theorem fsplit (B : Nat) (w : World) (hB : B < 2 ^ 256) : Calls Tryz.prog 43 #[LF f, A4 B] w fun r w' => r = .returned (.tuple #[.bool (vS f B), .int .u64 (vG f B : Int), A4 (vR f B)]) ∧ Below w.heap.size w w' := by
  have hw := h.w12
  have hd : B / 2 ^ f.t < 2 ^ 256 := Nat.lt_of_le_of_lt (Nat.div_le_self _ _) hB
  have hle : B / 2 ^ f.t * 2 ^ f.t ≤ B := Nat.div_mul_le_self _ _
  have c3 := fun W => sub4 B (B / 2 ^ f.t * 2 ^ f.t) W hB (Nat.lt_of_le_of_lt hle hB)
  rw [A4_sub hle, show B - B / 2 ^ f.t * 2 ^ f.t = vR f B by unfold vR; have := Nat.div_add_mod' B (2 ^ f.t); omega] at c3
  have c5 := fun W => dlowb_v (W4 (B / 2 ^ f.t) 0) (f.w + 5) (W4_words _ 0) (by omega) W
  have e5 : W4 (B / 2 ^ f.t) 0 % 2 ^ (f.w + 5) = (vG f B : Int) := by
    unfold W4 vG
    rw [Nat.mul_zero, Nat.pow_zero, Nat.div_one, i2mod]
    congr 1
    rw [show (18446744073709551616 : Nat) = 2 ^ (f.w + 5) * 2 ^ (64 - (f.w + 5)) by rw [← Nat.pow_add, show f.w + 5 + (64 - (f.w + 5)) = 64 by omega]]
    exact Nat.mod_mul_right_mod _ _ _
  rw [e5] at c5
  have e4 : (((B / 2 ^ f.t / 2 ^ (f.w + 5) % 2 : Nat) : Int) == 1) = vS f B := by
    unfold vS
    rw [Nat.div_div_eq_div_mul, ← Nat.pow_add]
    exact beq_dec _ 1
  rw [← e4]
  exact split_w _ _ _ _ _ _ _ _ _ w B _ _ _ _ _ _ (fun W => shr4 B f.t W hB (by omega)) (fun W => shl4 (B / 2 ^ f.t) f.t W hd (by omega)) c3 (fun W => bit4 (B / 2 ^ f.t) (f.w + 5) W hd (by omega)) c5
theorem fkind (G : Nat) (w : World) (hG : G < 2 ^ (f.w + 5)) : Calls Tryz.prog 44 #[LF f, .int .u64 (G : Int)] w fun r w' => r = .returned (.int .u64 (vV f.w G : Int)) ∧ Below w.heap.size w w' := by
  have hw := h.w12
  have hp : 2 ^ (f.w + 5) ≤ 2 ^ 17 := Nat.pow_le_pow_right (by decide) (by omega)
  exact kind_v _ _ _ _ _ _ _ _ _ w (G : Int) _ f.w (by omega) (by omega) (by omega) (by omega) (i2div G f.w)
theorem fsig (G : Nat) (w : World) (hG : G < 2 ^ (f.w + 5)) : Calls Tryz.prog 45 #[LF f, .int .u64 (G : Int)] w fun r w' => r = .returned (.bool (decide (G / 2 ^ (f.w - 1) % 2 = 1))) ∧ Below w.heap.size w w' := by
  have hw := h.w12
  have hp : 2 ^ (f.w + 5) ≤ 2 ^ 17 := Nat.pow_le_pow_right (by decide) (by omega)
  have hd : G / 2 ^ (f.w - 1) ≤ G := Nat.div_le_self _ _
  have e := and_lay (G / 2 ^ (f.w - 1)) 1 (by decide) (by omega)
  have e1 : bits .and .u64 ((G : Int) / 2 ^ (f.w - 1)) 1 = ((G / 2 ^ (f.w - 1) % 2 : Nat) : Int) := by rw [i2div]; exact e
  have c := signals_v f.dn ((f.w + 5 : Nat) : Int) (f.t : Int) (vB f : Int) (vQ f) (10 ^ (3 * f.j + 1)) (10 ^ (3 * f.j)) f.l (f.l + 3 * 2 ^ f.w - 1) w (G : Int) _ (f.w - 1) (by omega) (by omega) (by omega) (by omega) e1
  rw [show (((G / 2 ^ (f.w - 1) % 2 : Nat) : Int) == 1) = decide (G / 2 ^ (f.w - 1) % 2 = 1) from beq_dec _ 1] at c
  exact c
theorem fspec (k : Nat) (s : Bool) (w : World) (hk : k ≤ 31) : Calls Tryz.prog 84 #[LF f, .int .u64 (k : Int), .bool s] w fun r w' => r = .returned (.int .u64 ((k * 2 ^ f.w + (if s then 2 ^ (f.w - 1) else 0) : Nat) : Int)) ∧ Below w.heap.size w w' := by
  have hw := h.w12
  have ho := or_lay k 1 1 (by decide) (by omega)
  have hp : 2 ^ (f.w - 1) ≤ 2 ^ 11 := Nat.pow_le_pow_right (by decide) (by omega)
  have hp0 : 1 ≤ 2 ^ (f.w - 1) := Nat.one_le_two_pow
  have e2 : 2 ^ f.w = 2 * 2 ^ (f.w - 1) := by rw [← Nat.pow_succ']; congr 1; omega
  refine special_v _ _ _ _ _ _ _ _ _ w (k : Int) _ s (f.w - 1) (by omega) (by omega) (by omega) (by omega) (by omega) ((2 ^ (f.w - 1) : Nat) : Int) (i2pow _) (by omega) (by omega) ?_ ?_ ?_
  · rw [show ((k * 2 ^ 1 : Nat) : Int) = (k : Int) * 2 by omega] at ho
    rw [show (1 : Int) = ((1 : Nat) : Int) from rfl, ho]; omega
  · rw [e2]
    generalize 2 ^ (f.w - 1) = H at *
    cases s
    · simp only [Bool.false_eq_true, if_false, Int.add_zero, Nat.add_zero]
      rw [Int.natCast_mul, Int.natCast_mul, Int.mul_assoc]; rfl
    · simp only [if_true]
      rw [Int.natCast_add, Int.natCast_mul, Int.natCast_mul, Int.add_mul, Int.one_mul, Int.mul_assoc]; rfl
  · have : k * 2 ^ f.w ≤ 31 * 2 ^ 12 := Nat.mul_le_mul hk (Nat.pow_le_pow_right (by decide) (by omega))
    have : (if s then 2 ^ (f.w - 1) else 0) ≤ 2 ^ 11 := by split <;> omega
    omega
theorem fread (R : Nat) (w : World) (hR : R < 2 ^ f.t) : Calls Tryz.prog 47 #[LF f, A4 R] w fun r w' => r = .returned (A4 (vT f R)) ∧ Below w.heap.size w w' := by
  have hw := h.w12
  have h256 : R < 2 ^ 256 := Nat.lt_of_lt_of_le hR (Nat.pow_le_pow_right (by decide) (by omega))
  unfold LF vT
  have ht := h.t10
  cases hd : f.dn
  · simp only [Bool.false_eq_true, if_false]
    exact read_p _ _ _ _ _ _ _ _ w R
  · simp only [if_true]
    have c := fun W => dupk_any R (f.j : Int) W h256
    have e : dUv R (f.j : Int) = dlU f.j R := by
      unfold dUv
      rw [if_pos (by omega), Int.toNat_natCast, if_pos (by rw [← h.pt]; exact hR)]
    rw [e] at c
    exact read_d _ _ _ _ _ _ _ _ w R _ _ (f.j : Int) (by omega) (by omega) (by omega) c
theorem fwrite (C : Nat) (w : World) (hC : C < 2 ^ 256) (hd : f.dn = true → C < 1000 ^ f.j) : Calls Tryz.prog 83 #[LF f, A4 C] w fun r w' => r = .returned (A4 (if f.dn then dlP f.j C else C)) ∧ Below w.heap.size w w' := by
  have hw := h.w12
  unfold LF
  have ht := h.t10
  cases e : f.dn
  · simp only [Bool.false_eq_true, if_false]
    exact write_p _ _ _ _ _ _ _ _ w C
  · simp only [if_true]
    have c := fun W => dpck_any C (f.j : Int) W hC
    have e : dPv C (f.j : Int) = dlP f.j C := by
      unfold dPv
      rw [if_pos (by omega), Int.toNat_natCast, if_pos (hd e)]
    rw [e] at c
    exact write_d _ _ _ _ _ _ _ _ w C _ _ (f.j : Int) (by omega) (by omega) (by omega) c
theorem fjoin (s : Bool) (G R : Nat) (w : World) (hG : G < 2 ^ (f.w + 5)) (hR : R < 2 ^ f.t) : Calls Tryz.prog 81 #[LF f, .bool s, .int .u64 (G : Int), A4 R] w fun r w' => r = .returned (A4 ((if s then 2 ^ (f.t + (f.w + 5)) else 0) + G * 2 ^ f.t + R)) ∧ Below w.heap.size w w' := by
  have hw := h.w12
  have hp : 2 ^ (f.w + 5) ≤ 2 ^ 17 := Nat.pow_le_pow_right (by decide) (by omega)
  have hp0 : 1 ≤ 2 ^ (f.w + 5) := Nat.one_le_two_pow
  have hpt : 2 ^ f.t ≤ 2 ^ 110 := Nat.pow_le_pow_right (by decide) (by omega)
  have key : ∀ E : Nat, E < 2 ^ 18 → (∀ W, Calls Tryz.prog 56 #[.int .u64 (E : Int)] W fun x w' => x = .returned (A4 E) ∧ Below W.heap.size W w') ∧ (∀ W, Calls Tryz.prog 55 #[A4 E, .int .i64 (f.t : Int)] W fun x w' => x = .returned (A4 (E * 2 ^ f.t)) ∧ Below W.heap.size W w') ∧ (∀ W, Calls Tryz.prog 50 #[A4 (E * 2 ^ f.t), A4 R] W fun x w' => x = .returned (.tuple #[A4 (E * 2 ^ f.t + R), .int .u64 (((E * 2 ^ f.t + R) / 2 ^ 256 : Nat) : Int)]) ∧ Below W.heap.size W w') := by
    intro E hE
    have hm : E * 2 ^ f.t ≤ 2 ^ 18 * 2 ^ 110 := Nat.mul_le_mul (by omega) hpt
    have e : (2 : Nat) ^ 18 * 2 ^ 110 < 2 ^ 256 := by decide
    exact ⟨fun W => of4 E W (by omega), fun W => shl4 E f.t W (by omega) (by omega), fun W => add4 _ _ W (by omega) (Nat.lt_of_lt_of_le hR (by omega))⟩
  cases s
  · obtain ⟨k1, k2, k3⟩ := key G (by omega)
    simp only [Bool.false_eq_true, if_false, Nat.zero_add]
    exact djoin_n _ _ _ _ _ _ _ _ _ w _ _ _ _ _ _ k1 k2 k3
  · obtain ⟨k1, k2, k3⟩ := key (2 ^ (f.w + 5) + G) (by omega)
    have ho := or_lay 1 G (f.w + 5) hG (by omega)
    rw [Nat.one_mul] at ho
    have hc : bits .or .u64 (G : Int) ((2 ^ (f.w + 5) : Nat) : Int) = ((2 ^ (f.w + 5) + G : Nat) : Int) := by
      rw [← ho]
      have e1 := orW_eq ((2 ^ (f.w + 5) : Nat) : Int) (G : Int) (by omega) (by omega)
      have e2 := orW_eq (G : Int) ((2 ^ (f.w + 5) : Nat) : Int) (by omega) (by omega)
      unfold orW at e1 e2
      rw [e1, e2, Nat.or_comm]
    simp only [if_true]
    rw [show 2 ^ (f.t + (f.w + 5)) + G * 2 ^ f.t + R = (2 ^ (f.w + 5) + G) * 2 ^ f.t + R by rw [Nat.add_mul, ← Nat.pow_add, Nat.add_comm (f.w + 5) f.t]]
    exact djoin_s _ _ _ _ _ _ _ _ _ w (G : Int) _ _ _ _ _ _ k1 k2 k3 (f.w + 5) _ rfl (by omega) (i2pow _) (by omega) (by omega) hc
set_option maxHeartbeats 1000000 in
theorem fpart (G : Nat) (w : World) (hG : G < 2 ^ (f.w + 5)) : Calls Tryz.prog 48 #[LF f, .int .u64 (G : Int)] w fun r w' => r = .returned (.tuple #[.int .u64 (vF f.dn f.w G : Int), .int .u64 (vL f.dn f.w G : Int)]) ∧ Below w.heap.size w w' := by
  have hw := h.w12
  have hp : 2 ^ (f.w + 5) ≤ 2 ^ 17 := Nat.pow_le_pow_right (by decide) (by omega)
  have hB : vB f ≤ 12 := by unfold vB; split <;> omega
  have hA : G / 2 ^ vB f ≤ G := Nat.div_le_self _ _
  have cl := fun W => dlowb_v (G : Int) (vB f) (by omega) (by omega) W
  rw [i2mod] at cl
  have hX : G % 2 ^ vB f < 2 ^ vB f := Nat.mod_lt _ (Nat.two_pow_pos _)
  have hpb : 2 ^ vB f ≤ 2 ^ 12 := Nat.pow_le_pow_right (by decide) hB
  have e8 : 2 ^ (f.w + 5) = 32 * 2 ^ f.w := by rw [Nat.pow_add, Nat.mul_comm]
  have e3 : 2 ^ (f.w + 3) = 8 * 2 ^ f.w := by rw [Nat.pow_add, Nat.mul_comm]
  have hV8 : G / 2 ^ (f.w + 3) = vV f.w G / 8 := by unfold vV; rw [Nat.div_div_eq_div_mul, e3, Nat.mul_comm]
  have hV32 : vV f.w G < 32 := by unfold vV; rw [Nat.div_lt_iff_lt_mul (Nat.two_pow_pos _), ← e8]; exact hG
  have hone : 1 ≤ 2 ^ f.w := Nat.one_le_two_pow
  by_cases h24 : vV f.w G < 24
  · have hF : ∃ F : Nat, F = G / 2 ^ vB f / 8 ∧ vF f.dn f.w G = F * 2 ^ vB f + G % 2 ^ vB f := by
      refine ⟨_, rfl, ?_⟩
      unfold vF vB
      cases f.dn
      · simp only [Bool.false_eq_true, if_false, Nat.pow_zero, Nat.div_one, Nat.mod_one, Nat.mul_one, Nat.add_zero, if_pos h24]
      · simp only [if_true, if_pos h24]; rfl
    obtain ⟨F, hF1, hF2⟩ := hF
    have hFl : F ≤ G := by rw [hF1]; exact Nat.le_trans (Nat.div_le_self _ _) hA
    have hFm : F * 2 ^ vB f ≤ 2 ^ 17 * 2 ^ 12 := Nat.mul_le_mul (by omega) hpb
    have ho := or_lay F (G % 2 ^ vB f) (vB f) hX (by omega)
    rw [hF2]
    have hL : vL f.dn f.w G = G / 2 ^ vB f % 8 := by
      unfold vL vB
      cases f.dn
      · simp only [Bool.false_eq_true, if_false, Nat.pow_zero, Nat.div_one, if_pos h24]
      · simp only [if_true, if_pos h24]; rfl
    rw [hL]
    have c3 := fun W => dlow_v ((G / 2 ^ vB f : Nat) : Int) 3 (by omega) (by decide) W
    rw [i2mod] at c3
    refine part_s f.dn _ _ _ _ _ _ _ w (G : Int) ((G / 2 ^ vB f : Nat) : Int) ((G / 2 ^ (f.w + 3) : Nat) : Int) (F : Int) ((F * 2 ^ vB f : Nat) : Int) ((G % 2 ^ vB f : Nat) : Int) _ _ (vB f) (f.w + 3) (by omega) (by omega) (by omega) (by omega) (by omega) (i2div _ _) (by omega) (by omega) (i2div _ _) (by omega) (by omega) (by rw [i2pow, Int.natCast_mul]) (by omega) (by omega) cl ho ?_ (by omega) c3
    rw [show (3 : Int) = ((3 : Nat) : Int) from rfl, beq_dec, hV8]
    exact decide_eq_false (by omega)
  · have e2 : 2 ^ (f.w + 2) = 4 * 2 ^ f.w := by rw [Nat.pow_add, Nat.mul_comm]
    have hk : ∃ k : Nat, ((f.w + 3 : Nat) : Int) - (vB f : Int) = (k : Int) ∧ k ≤ 15 ∧ vF f.dn f.w G = G / 2 ^ vB f % 2 ^ k / 2 * 2 ^ vB f + G % 2 ^ vB f ∧ vL f.dn f.w G = 8 + G / 2 ^ vB f % 2 ^ k % 2 := by
      unfold vF vL vB
      cases f.dn
      · refine ⟨f.w + 3, by simp, by omega, ?_, ?_⟩
        · simp only [Bool.false_eq_true, if_false, Nat.pow_zero, Nat.div_one, Nat.mod_one, Nat.mul_one, Nat.add_zero, if_neg h24]
          rw [e2, e3]; generalize 2 ^ f.w = H at *; rw [show 8 * H = 2 * (4 * H) by omega, Nat.mod_mul_right_div_self]
        · simp only [Bool.false_eq_true, if_false, Nat.pow_zero, Nat.div_one, if_neg h24]
          rw [e3, show 8 * 2 ^ f.w = 2 * (4 * 2 ^ f.w) by omega, Nat.mod_mul_right_mod]
      · refine ⟨3, by simp only [if_true]; omega, by omega, ?_, ?_⟩
        · simp only [if_true, if_neg h24]
          show vV f.w G / 2 % 4 * _ + _ = vV f.w G % 2 ^ 3 / 2 * _ + _
          rw [show (2 : Nat) ^ 3 = 2 * 4 by decide, Nat.mod_mul_right_div_self]
        · simp only [if_true, if_neg h24]
          show 8 + vV f.w G % 2 = 8 + vV f.w G % 2 ^ 3 % 2
          rw [show (2 : Nat) ^ 3 = 2 * 4 by decide, Nat.mod_mul_right_mod]
    obtain ⟨k, hk, hk15, hF2, hL⟩ := hk
    rw [hF2, hL]
    have hAi : (G : Int) / 2 ^ vB f = ((G / 2 ^ vB f : Nat) : Int) := i2div _ _
    have hMi : (G : Int) / 2 ^ (f.w + 3) = ((G / 2 ^ (f.w + 3) : Nat) : Int) := i2div _ _
    have hq : (((G / 2 ^ (f.w + 3) : Nat) : Int) == 3) = true := by
      rw [show (3 : Int) = ((3 : Nat) : Int) from rfl, beq_dec, hV8]
      exact decide_eq_true (by omega)
    generalize G / 2 ^ vB f = A at *
    generalize G / 2 ^ (f.w + 3) = M at *
    generalize G % 2 ^ vB f = X at *
    have c3 := fun W => dlow_v (A : Int) k (by omega) (by omega) W
    rw [i2mod] at c3
    have hAk : A % 2 ^ k ≤ A := Nat.mod_le _ _
    generalize A % 2 ^ k = A' at *
    have hFm : A' / 2 * 2 ^ vB f ≤ 2 ^ 17 * 2 ^ 12 := Nat.mul_le_mul (by omega) hpb
    have ho := or_lay (A' / 2) X (vB f) hX (by omega)
    have c4 := fun W => dlow_v (A' : Int) 1 (by omega) (by omega) W
    rw [i2mod] at c4
    exact part_g f.dn _ _ _ _ _ _ _ w (G : Int) (A : Int) (M : Int) ((A' / 2 : Nat) : Int) ((A' / 2 * 2 ^ vB f : Nat) : Int) (X : Int) _ _ (vB f) (f.w + 3) (by omega) (by omega) (by omega) (by omega) (by omega) hAi (by omega) (by omega) hMi (by omega) (by omega) (by rw [i2pow, Int.natCast_mul]) (by omega) (by omega) cl ho (A' : Int) ((A' % 2 ^ 1 : Nat) : Int) k hq hk (by omega) (by omega) (by omega) (by omega) (by omega) (by omega) c3 c4
set_option maxHeartbeats 1000000 in
theorem funite (E a : Nat) (w : World) (hE : E < 3 * 2 ^ f.w) (ha : a ≤ 9) : Calls Tryz.prog 82 #[LF f, .int .u64 (E : Int), .int .u64 (a : Int)] w fun r w' => r = .returned (.int .u64 (vN f.dn f.w E a : Int)) ∧ Below w.heap.size w w' := by
  have hw := h.w12
  have hp : 2 ^ f.w ≤ 2 ^ 12 := Nat.pow_le_pow_right (by decide) (by omega)
  have hB : vB f ≤ 12 := by unfold vB; split <;> omega
  have hA : E / 2 ^ vB f ≤ E := Nat.div_le_self _ _
  have cl := fun W => dlowb_v (E : Int) (vB f) (by omega) (by omega) W
  rw [i2mod] at cl
  have hX : E % 2 ^ vB f < 2 ^ vB f := Nat.mod_lt _ (Nat.two_pow_pos _)
  have hpb : 2 ^ vB f ≤ 2 ^ 12 := Nat.pow_le_pow_right (by decide) hB
  have hone : 1 ≤ 2 ^ f.w := Nat.one_le_two_pow
  by_cases h8 : 8 ≤ a
  · have hk : ∃ k : Nat, ((f.w + 5 : Nat) : Int) - 2 - (vB f : Int) = (k : Int) ∧ 1 ≤ k ∧ k ≤ 15 ∧ E / 2 ^ vB f * 2 < 2 ^ k ∧ vN f.dn f.w E a = (3 * 2 ^ k + E / 2 ^ vB f * 2 + a % 2) * 2 ^ vB f + E % 2 ^ vB f := by
      unfold vN vB
      have e3 : 2 ^ (f.w + 3) = 8 * 2 ^ f.w := by rw [Nat.pow_add, Nat.mul_comm]
      cases f.dn
      · refine ⟨f.w + 3, by simp only [Bool.false_eq_true, if_false]; omega, by omega, by omega, ?_, ?_⟩
        · simp only [Bool.false_eq_true, if_false, Nat.pow_zero, Nat.div_one]; omega
        · simp only [Bool.false_eq_true, if_false, Nat.pow_zero, Nat.div_one, Nat.mod_one, Nat.mul_one, Nat.add_zero, if_pos h8]
      · refine ⟨3, by simp only [if_true]; omega, by omega, by omega, ?_, ?_⟩
        · simp only [if_true]
          have : E / 2 ^ f.w < 3 := by rw [Nat.div_lt_iff_lt_mul (Nat.two_pow_pos _)]; exact hE
          omega
        · simp only [if_true, if_pos h8]
    obtain ⟨k, hk, hk1, hk15, hAk, hN⟩ := hk
    rw [hN]
    have hAi : (E : Int) / 2 ^ vB f = ((E / 2 ^ vB f : Nat) : Int) := i2div _ _
    have hpk : 2 ^ k ≤ 2 ^ 15 := Nat.pow_le_pow_right (by decide) hk15
    have hpk1 : 1 ≤ 2 ^ k := Nat.one_le_two_pow
    have ek : 2 ^ k = 2 ^ (k - 1) * 2 := by rw [← Nat.pow_succ]; congr 1; omega
    have hki : (2 : Int) ^ k = ((2 ^ k : Nat) : Int) := i2pow k
    generalize E / 2 ^ vB f = A at *
    generalize E % 2 ^ vB f = X at *
    have hU := or_lay 3 (A * 2) k hAk (by omega)
    have hY := or_lay (3 * 2 ^ (k - 1) + A) (a % 2) 1 (Nat.mod_lt _ (by decide)) (by omega)
    rw [show (3 * 2 ^ (k - 1) + A) * 2 ^ 1 = 3 * 2 ^ k + A * 2 by omega] at hY
    have c1 := fun W => dlowb_v (a : Int) 1 (by omega) (by omega) W
    rw [i2mod, Nat.pow_one] at c1
    have hU' : bits .or .u64 (3 * ((2 ^ k : Nat) : Int)) ((A : Int) * 2) = ((3 * 2 ^ k + A * 2 : Nat) : Int) := by
      rw [← hU, Int.natCast_mul, Int.natCast_mul]; rfl
    clear hU
    generalize 2 ^ k = H at *
    have hYm : (3 * H + A * 2 + a % 2) * 2 ^ vB f ≤ 2 ^ 18 * 2 ^ 12 := Nat.mul_le_mul (by omega) hpb
    have ho := or_lay (3 * H + A * 2 + a % 2) X (vB f) hX (by omega)
    exact unite_g f.dn _ _ _ _ _ _ _ w (E : Int) (a : Int) (A : Int) ((3 * H + A * 2 + a % 2 : Nat) : Int) (((3 * H + A * 2 + a % 2) * 2 ^ vB f : Nat) : Int) (X : Int) _ (vB f) (by omega) (by omega) (by omega) (by omega) (by omega) hAi (by omega) (by omega) (by omega) (by omega) (by rw [i2pow, Int.natCast_mul]) (by omega) (by omega) cl ho k (H : Int) ((3 * H + A * 2 : Nat) : Int) ((a % 2 : Nat) : Int) (by omega) hk hki (by omega) (by omega) hU' hY c1
  · have hN : vN f.dn f.w E a = (E / 2 ^ vB f * 8 + a) * 2 ^ vB f + E % 2 ^ vB f := by
      unfold vN vB
      cases f.dn
      · simp only [Bool.false_eq_true, if_false, Nat.pow_zero, Nat.div_one, Nat.mod_one, Nat.mul_one, Nat.add_zero, if_neg h8]
      · simp only [if_true, if_neg h8]
    rw [hN]
    have hAi : (E : Int) / 2 ^ vB f = ((E / 2 ^ vB f : Nat) : Int) := i2div _ _
    generalize E / 2 ^ vB f = A at *
    generalize E % 2 ^ vB f = X at *
    have hY := or_lay A a 3 (by omega) (by omega)
    have hY' : bits .or .u64 ((A : Int) * 8) (a : Int) = ((A * 8 + a : Nat) : Int) := hY
    have hYm : (A * 8 + a) * 2 ^ vB f ≤ 2 ^ 18 * 2 ^ 12 := Nat.mul_le_mul (by omega) hpb
    have ho := or_lay (A * 8 + a) X (vB f) hX (by omega)
    exact unite_s f.dn _ _ _ _ _ _ _ w (E : Int) (a : Int) (A : Int) ((A * 8 + a : Nat) : Int) (((A * 8 + a) * 2 ^ vB f : Nat) : Int) (X : Int) _ (vB f) (by omega) (by omega) (by omega) (by omega) (by omega) hAi (by omega) (by omega) (by omega) (by omega) (by rw [i2pow, Int.natCast_mul]) (by omega) (by omega) cl ho (by omega) hY'
end
end
section
/-- eighteen cells of a block -/
def ld18 (a : Addr) : Sem (Array Value) := loadCellsFrom a 0 18 #[]
theorem ld18_eq (a : Addr) : loadCellsFrom a 0 18 #[] = ld18 a := rfl
theorem ld18_run {P : Program} (W : World) (b : Nat) (f : Nat → Value) (h : ∀ i, i < 18 → W.cell? ⟨b, i, none⟩ = some (f i)) :
    (ld18 ⟨b, 0, none⟩).run P W = .ok ((List.range 18).map f).toArray W := by
  have := run_loadCellsFrom (P := P) W ⟨b, 0, none⟩ f 18 0 #[] (fun j hj => by
    have hadd : (⟨b, 0, none⟩ : Addr).add (0 + j) = ⟨b, 0 + j, none⟩ := by unfold Addr.add; split <;> simp_all
    rw [hadd, Nat.zero_add]
    exact h j hj)
  unfold ld18
  rw [this]
  simp
/-- the same -/
def ld18x (a : Addr) : Sem (Array Value) := loadCellsFrom a 0 18 #[]
theorem ld18_got {P : Program} (W : World) (b : Nat) :
    (ld18 ⟨b, 0, none⟩).run P W = if (W.cell? ⟨b, 0, none⟩).isSome = true ∧ (W.cell? ⟨b, 1, none⟩).isSome = true ∧ (W.cell? ⟨b, 2, none⟩).isSome = true ∧ (W.cell? ⟨b, 3, none⟩).isSome = true ∧ (W.cell? ⟨b, 4, none⟩).isSome = true ∧ (W.cell? ⟨b, 5, none⟩).isSome = true ∧ (W.cell? ⟨b, 6, none⟩).isSome = true ∧ (W.cell? ⟨b, 7, none⟩).isSome = true ∧ (W.cell? ⟨b, 8, none⟩).isSome = true ∧ (W.cell? ⟨b, 9, none⟩).isSome = true ∧ (W.cell? ⟨b, 10, none⟩).isSome = true ∧ (W.cell? ⟨b, 11, none⟩).isSome = true ∧ (W.cell? ⟨b, 12, none⟩).isSome = true ∧ (W.cell? ⟨b, 13, none⟩).isSome = true ∧ (W.cell? ⟨b, 14, none⟩).isSome = true ∧ (W.cell? ⟨b, 15, none⟩).isSome = true ∧ (W.cell? ⟨b, 16, none⟩).isSome = true ∧ (W.cell? ⟨b, 17, none⟩).isSome = true then .ok #[(W.cell? ⟨b, 0, none⟩).getD undef, (W.cell? ⟨b, 1, none⟩).getD undef, (W.cell? ⟨b, 2, none⟩).getD undef, (W.cell? ⟨b, 3, none⟩).getD undef, (W.cell? ⟨b, 4, none⟩).getD undef, (W.cell? ⟨b, 5, none⟩).getD undef, (W.cell? ⟨b, 6, none⟩).getD undef, (W.cell? ⟨b, 7, none⟩).getD undef, (W.cell? ⟨b, 8, none⟩).getD undef, (W.cell? ⟨b, 9, none⟩).getD undef, (W.cell? ⟨b, 10, none⟩).getD undef, (W.cell? ⟨b, 11, none⟩).getD undef, (W.cell? ⟨b, 12, none⟩).getD undef, (W.cell? ⟨b, 13, none⟩).getD undef, (W.cell? ⟨b, 14, none⟩).getD undef, (W.cell? ⟨b, 15, none⟩).getD undef, (W.cell? ⟨b, 16, none⟩).getD undef, (W.cell? ⟨b, 17, none⟩).getD undef] W else (ld18x ⟨b, 0, none⟩).run P W := by
  split
  · rename_i hc
    obtain ⟨h0, h1, h2, h3, h4, h5, h6, h7, h8, h9, h10, h11, h12, h13, h14, h15, h16, h17⟩ := hc
    have h : ∀ i, i < 18 → W.cell? ⟨b, i, none⟩ = some ((W.cell? ⟨b, i, none⟩).getD undef) := by
      intro i hi
      have hs : (W.cell? ⟨b, i, none⟩).isSome = true := by
        rcases (show i = 0 ∨ i = 1 ∨ i = 2 ∨ i = 3 ∨ i = 4 ∨ i = 5 ∨ i = 6 ∨ i = 7 ∨ i = 8 ∨ i = 9 ∨ i = 10 ∨ i = 11 ∨ i = 12 ∨ i = 13 ∨ i = 14 ∨ i = 15 ∨ i = 16 ∨ i = 17 by omega) with e | e | e | e | e | e | e | e | e | e | e | e | e | e | e | e | e | e <;> subst e <;> assumption
      cases hc : W.cell? ⟨b, i, none⟩ with
      | none => rw [hc] at hs; cases hs
      | some v => rfl
    exact ld18_run (P := P) W b (fun i => (W.cell? ⟨b, i, none⟩).getD undef) h
  · rfl
attribute [local irreducible] W4
attribute [local go_sem ↓] ld18_eq
attribute [local go_sem] ld18_got
section
variable (dn : Bool) (g t bl : Int) (wo co pa : Nat) (le mo : Int) (w : World) (B Fr : Nat) (s : Bool) (G V : Int)
  (cs : ∀ W, Calls Tryz.prog 43 #[LD dn g t bl wo co pa le mo, A4 B] W fun r w' => r = .returned (.tuple #[.bool s, .int .u64 G, A4 Fr]) ∧ Below W.heap.size W w')
  (ck : ∀ W, Calls Tryz.prog 44 #[LD dn g t bl wo co pa le mo, .int .u64 G] W fun r w' => r = .returned (.int .u64 V) ∧ Below W.heap.size W w')
include cs ck
set_option maxHeartbeats 1000000 in
theorem dmean_i (h30 : (V == 30) = true) : Calls Tryz.prog 24 #[LD dn g t bl wo co pa le mo, A4 B] w fun r w' => r = .returned (DV 2 s false 0 0) ∧ Below w.heap.size w w' := by
  have hsm := cell_set_map
  have hz : DV 2 s false 0 0 = .agg #[.int .i64 2, .bool s, .bool false, .int .i64 0, .int .u64 0, .int .u64 0, .int .u64 0, .int .u64 0] := by unfold DV; simp only [W4_zero]
  rw [hz]
  go_enter Tryz.func24, Tryz.ntmps24
  go_wp2_with (first
    | (go_at_call 43; refine (cs _).mono ?_; rintro r w1 ⟨rfl, hb1⟩; obtain ⟨hc1, hf1⟩ := bcell hb1; have hz1_0 : w.heap.size < w1.heap.size := lt_below hb1 ltg; have hl1_0 := Nat.le_of_lt hz1_0; have hz1_1 : w.heap.size + 1 < w1.heap.size := lt_below hb1 ltg; have hl1_1 := Nat.le_of_lt hz1_1; have hz1_2 : w.heap.size + 1 + 1 < w1.heap.size := lt_below hb1 ltg; have hl1_2 := Nat.le_of_lt hz1_2; have hA1 := bnext (w0 := w) bgo hb1; have hs1 := hA1.size; clear hb1)
    | (go_at_call 44; refine (ck _).mono ?_; rintro r w2 ⟨rfl, hb2⟩; obtain ⟨hc2, hf2⟩ := bcell hb2; have hz2_0 : w.heap.size < w2.heap.size := lt_below hb2 ltg; have hl2_0 := Nat.le_of_lt hz2_0; have hz2_1 : w.heap.size + 1 < w2.heap.size := lt_below hb2 ltg; have hl2_1 := Nat.le_of_lt hz2_1; have hz2_2 : w.heap.size + 1 + 1 < w2.heap.size := lt_below hb2 ltg; have hl2_2 := Nat.le_of_lt hz2_2; have hz2_3 : w1.heap.size < w2.heap.size := lt_below hb2 ltg; have hl2_3 := Nat.le_of_lt hz2_3; have hA2 := bnext (w0 := w) bgo hb2; have hs2 := hA2.size; clear hb2))
  exact bodyPost_ret (by simp only [results, Tryz.results24]; go_simp) rfl ⟨rfl, bgo⟩
variable (U K : Nat)
  (cr : ∀ W, Calls Tryz.prog 47 #[LD dn g t bl wo co pa le mo, A4 Fr] W fun r w' => r = .returned (A4 U) ∧ Below W.heap.size W w')
include cr
set_option maxHeartbeats 2000000 in
theorem dmean_n (q : Bool) (h30 : (V == 30) = false) (h31 : (V == 31) = true)
    (cq : ∀ W, Calls Tryz.prog 45 #[LD dn g t bl wo co pa le mo, .int .u64 G] W fun r w' => r = .returned (.bool q) ∧ Below W.heap.size W w')
    (co' : ∀ W, Calls Tryz.prog 46 #[A4 U, A4 pa] W fun r w' => r = .returned (A4 K) ∧ Below W.heap.size W w') :
    Calls Tryz.prog 24 #[LD dn g t bl wo co pa le mo, A4 B] w fun r w' => r = .returned (DV 3 s q 0 K) ∧ Below w.heap.size w w' := by
  have hsm := cell_set_map
  go_enter Tryz.func24, Tryz.ntmps24
  go_wp2_with (first
    | (go_at_call 43; refine (cs _).mono ?_; rintro r w1 ⟨rfl, hb1⟩; obtain ⟨hc1, hf1⟩ := bcell hb1; have hz1_0 : w.heap.size < w1.heap.size := lt_below hb1 ltg; have hl1_0 := Nat.le_of_lt hz1_0; have hz1_1 : w.heap.size + 1 < w1.heap.size := lt_below hb1 ltg; have hl1_1 := Nat.le_of_lt hz1_1; have hz1_2 : w.heap.size + 1 + 1 < w1.heap.size := lt_below hb1 ltg; have hl1_2 := Nat.le_of_lt hz1_2; have hA1 := bnext (w0 := w) bgo hb1; have hs1 := hA1.size; clear hb1)
    | (go_at_call 44; refine (ck _).mono ?_; rintro r w2 ⟨rfl, hb2⟩; obtain ⟨hc2, hf2⟩ := bcell hb2; have hz2_0 : w.heap.size < w2.heap.size := lt_below hb2 ltg; have hl2_0 := Nat.le_of_lt hz2_0; have hz2_1 : w.heap.size + 1 < w2.heap.size := lt_below hb2 ltg; have hl2_1 := Nat.le_of_lt hz2_1; have hz2_2 : w.heap.size + 1 + 1 < w2.heap.size := lt_below hb2 ltg; have hl2_2 := Nat.le_of_lt hz2_2; have hz2_3 : w1.heap.size < w2.heap.size := lt_below hb2 ltg; have hl2_3 := Nat.le_of_lt hz2_3; have hA2 := bnext (w0 := w) bgo hb2; have hs2 := hA2.size; clear hb2))
  refine wp_tail 10 (by kernel_rfl) (by kernel_rfl) (by kernel_rfl) (fun _ _ d _ _ h => by cases d <;> exact h) fun hne hcell => ?_
  simp only [List.take_succ_cons, List.take_zero, List.drop_succ_cons, List.drop_zero]
  repeat go_big_quiet_step (fail)
  go_big_quiet_step ((go_at_call 45; exact calls_wd _ bk_next (cq _)))
  repeat go_big_quiet_step (fail)
  go_big_quiet_step ((go_at_call 47; exact calls_wd _ bk_next (cr _)))
  repeat go_big_quiet_step (fail)
  go_big_quiet_step ((go_at_call 46; exact calls_wd _ bk_next (co' _)))
  repeat go_big_quiet_step (fail)
  refine wpQuiet_nil fun w3 hb3 => ?_
  obtain ⟨hc3, hf3⟩ := bcell hb3; have hz3_0 : w.heap.size < w3.heap.size := lt_below hb3 ltg; have hl3_0 := Nat.le_of_lt hz3_0; have hz3_1 : w.heap.size + 1 < w3.heap.size := lt_below hb3 ltg; have hl3_1 := Nat.le_of_lt hz3_1; have hz3_2 : w.heap.size + 1 + 1 < w3.heap.size := lt_below hb3 ltg; have hl3_2 := Nat.le_of_lt hz3_2; have hz3_3 : w1.heap.size < w3.heap.size := lt_below hb3 ltg; have hl3_3 := Nat.le_of_lt hz3_3; have hA3 := bnext (w0 := w) bgo hb3; have hs3 := hA3.size; clear hb3
  go_wp2
  exact bodyPost_ret (v := DV 3 s q 0 K) (by simp only [results, Tryz.results24]; go_simp) rfl ⟨rfl, bgo⟩
set_option maxHeartbeats 4000000 in
theorem dmean_f (F L c1 c2 : Int) (M C : Nat) (h30 : (V == 30) = false) (h31 : (V == 31) = false) (hF0 : 0 ≤ F) (hF1 : F ≤ 1000000) (hl0 : -1000000 ≤ le) (hl1 : le ≤ 1000000)
    (cp : ∀ W, Calls Tryz.prog 48 #[LD dn g t bl wo co pa le mo, .int .u64 G] W fun r w' => r = .returned (.tuple #[.int .u64 F, .int .u64 L]) ∧ Below W.heap.size W w')
    (cm : ∀ W, Calls Tryz.prog 49 #[A4 wo, .int .u64 L] W fun r w' => r = .returned (.tuple #[A4 M, .int .u64 c1]) ∧ Below W.heap.size W w')
    (ca : ∀ W, Calls Tryz.prog 50 #[A4 M, A4 U] W fun r w' => r = .returned (.tuple #[A4 C, .int .u64 c2]) ∧ Below W.heap.size W w')
    (co' : ∀ W, Calls Tryz.prog 46 #[A4 C, A4 co] W fun r w' => r = .returned (A4 K) ∧ Below W.heap.size W w') :
    Calls Tryz.prog 24 #[LD dn g t bl wo co pa le mo, A4 B] w fun r w' => r = .returned (DV 1 s false (F + le) K) ∧ Below w.heap.size w w' := by
  have hsm := cell_set_map
  go_enter Tryz.func24, Tryz.ntmps24
  go_wp2_with (first
    | (go_at_call 43; refine (cs _).mono ?_; rintro r w1 ⟨rfl, hb1⟩; obtain ⟨hc1, hf1⟩ := bcell hb1; have hz1_0 : w.heap.size < w1.heap.size := lt_below hb1 ltg; have hl1_0 := Nat.le_of_lt hz1_0; have hz1_1 : w.heap.size + 1 < w1.heap.size := lt_below hb1 ltg; have hl1_1 := Nat.le_of_lt hz1_1; have hz1_2 : w.heap.size + 1 + 1 < w1.heap.size := lt_below hb1 ltg; have hl1_2 := Nat.le_of_lt hz1_2; have hA1 := bnext (w0 := w) bgo hb1; have hs1 := hA1.size; clear hb1)
    | (go_at_call 44; refine (ck _).mono ?_; rintro r w2 ⟨rfl, hb2⟩; obtain ⟨hc2, hf2⟩ := bcell hb2; have hz2_0 : w.heap.size < w2.heap.size := lt_below hb2 ltg; have hl2_0 := Nat.le_of_lt hz2_0; have hz2_1 : w.heap.size + 1 < w2.heap.size := lt_below hb2 ltg; have hl2_1 := Nat.le_of_lt hz2_1; have hz2_2 : w.heap.size + 1 + 1 < w2.heap.size := lt_below hb2 ltg; have hl2_2 := Nat.le_of_lt hz2_2; have hz2_3 : w1.heap.size < w2.heap.size := lt_below hb2 ltg; have hl2_3 := Nat.le_of_lt hz2_3; have hA2 := bnext (w0 := w) bgo hb2; have hs2 := hA2.size; clear hb2)
    | (go_at_call 48; refine (cp _).mono ?_; rintro r w3 ⟨rfl, hb3⟩; obtain ⟨hc3, hf3⟩ := bcell hb3; have hz3_0 : w.heap.size < w3.heap.size := lt_below hb3 ltg; have hl3_0 := Nat.le_of_lt hz3_0; have hz3_1 : w.heap.size + 1 < w3.heap.size := lt_below hb3 ltg; have hl3_1 := Nat.le_of_lt hz3_1; have hz3_2 : w.heap.size + 1 + 1 < w3.heap.size := lt_below hb3 ltg; have hl3_2 := Nat.le_of_lt hz3_2; have hz3_3 : w1.heap.size < w3.heap.size := lt_below hb3 ltg; have hl3_3 := Nat.le_of_lt hz3_3; have hA3 := bnext (w0 := w) bgo hb3; have hs3 := hA3.size; clear hb3)
    | (go_at_call 49; refine (cm _).mono ?_; rintro r w4 ⟨rfl, hb4⟩; obtain ⟨hc4, hf4⟩ := bcell hb4; have hz4_0 : w.heap.size < w4.heap.size := lt_below hb4 ltg; have hl4_0 := Nat.le_of_lt hz4_0; have hz4_1 : w.heap.size + 1 < w4.heap.size := lt_below hb4 ltg; have hl4_1 := Nat.le_of_lt hz4_1; have hz4_2 : w.heap.size + 1 + 1 < w4.heap.size := lt_below hb4 ltg; have hl4_2 := Nat.le_of_lt hz4_2; have hz4_3 : w1.heap.size < w4.heap.size := lt_below hb4 ltg; have hl4_3 := Nat.le_of_lt hz4_3; have hA4 := bnext (w0 := w) bgo hb4; have hs4 := hA4.size; clear hb4))
  refine wp_tail 5 (by kernel_rfl) (by kernel_rfl) (by kernel_rfl) (fun _ _ d _ _ h => by cases d <;> exact h) fun hne hcell => ?_
  simp only [List.take_succ_cons, List.take_zero, List.drop_succ_cons, List.drop_zero]
  repeat go_big_quiet_step (fail)
  go_big_quiet_step ((go_at_call 47; exact calls_wd _ bk_next (cr _)))
  repeat go_big_quiet_step (fail)
  go_big_quiet_step ((go_at_call 50; exact calls_wd _ bk_next (ca _)))
  repeat go_big_quiet_step (fail)
  refine wpQuiet_nil fun w5 hb5 => ?_
  obtain ⟨hc5, hf5⟩ := bcell hb5; have hz5_0 : w.heap.size < w5.heap.size := lt_below hb5 ltg; have hl5_0 := Nat.le_of_lt hz5_0; have hz5_1 : w.heap.size + 1 < w5.heap.size := lt_below hb5 ltg; have hl5_1 := Nat.le_of_lt hz5_1; have hz5_2 : w.heap.size + 1 + 1 < w5.heap.size := lt_below hb5 ltg; have hl5_2 := Nat.le_of_lt hz5_2; have hz5_3 : w1.heap.size < w5.heap.size := lt_below hb5 ltg; have hl5_3 := Nat.le_of_lt hz5_3; have hz5_4 : w4.heap.size < w5.heap.size := lt_below hb5 ltg; have hl5_4 := Nat.le_of_lt hz5_4; have hA5 := bnext (w0 := w) bgo hb5; have hs5 := hA5.size; clear hb5
  go_wp2
  refine wp_tail 10 (by kernel_rfl) (by kernel_rfl) (by kernel_rfl) (fun _ _ d _ _ h => by cases d <;> exact h) fun hne hcell => ?_
  simp only [List.take_succ_cons, List.take_zero, List.drop_succ_cons, List.drop_zero]
  repeat go_big_quiet_step (fail)
  go_big_quiet_step ((go_at_call 46; exact calls_wd _ bk_next (co' _)))
  repeat go_big_quiet_step (fail)
  refine wpQuiet_nil fun w6 hb6 => ?_
  obtain ⟨hc6, hf6⟩ := bcell hb6; have hz6_0 : w.heap.size < w6.heap.size := lt_below hb6 ltg; have hl6_0 := Nat.le_of_lt hz6_0; have hz6_1 : w.heap.size + 1 < w6.heap.size := lt_below hb6 ltg; have hl6_1 := Nat.le_of_lt hz6_1; have hz6_2 : w.heap.size + 1 + 1 < w6.heap.size := lt_below hb6 ltg; have hl6_2 := Nat.le_of_lt hz6_2; have hz6_3 : w1.heap.size < w6.heap.size := lt_below hb6 ltg; have hl6_3 := Nat.le_of_lt hz6_3; have hz6_4 : w4.heap.size < w6.heap.size := lt_below hb6 ltg; have hl6_4 := Nat.le_of_lt hz6_4; have hA6 := bnext (w0 := w) bgo hb6; have hs6 := hA6.size; clear hb6
  go_wp2
  exact bodyPost_ret (v := DV 1 s false (F + le) K) (by simp only [results, Tryz.results24]; go_simp) rfl ⟨rfl, bgo⟩
end
section
variable (dn : Bool) (g t bl : Int) (wo co pa : Nat) (le mo : Int) (w : World) (c x : Int) (s q : Bool) (k P : Nat) (E : Int)
set_option maxHeartbeats 1000000 in
theorem dpack_1 (h : ∀ W, Calls Tryz.prog 51 #[LD dn g t bl wo co pa le mo, DV 1 s q x k] W fun r w' => r = .returned (.tuple #[A4 P, .int .i64 E]) ∧ Below W.heap.size W w') :
    Calls Tryz.prog 25 #[LD dn g t bl wo co pa le mo, DV 1 s q x k] w fun r w' => r = .returned (.tuple #[A4 P, .int .i64 E]) ∧ Below w.heap.size w w' := by
  have hsm := cell_set_map
  go_enter Tryz.func25, Tryz.ntmps25
  go_wp2_with (go_at_call 51; refine (h _).mono ?_; rintro r w1 ⟨rfl, hb1⟩; obtain ⟨hc1, hf1⟩ := bcell hb1; have hz1_0 : w.heap.size < w1.heap.size := lt_below hb1 ltg; have hl1_0 := Nat.le_of_lt hz1_0; have hz1_1 : w.heap.size + 1 < w1.heap.size := lt_below hb1 ltg; have hl1_1 := Nat.le_of_lt hz1_1; have hz1_2 : w.heap.size + 1 + 1 < w1.heap.size := lt_below hb1 ltg; have hl1_2 := Nat.le_of_lt hz1_2; have hA1 := bnext (w0 := w) bgo hb1; have hs1 := hA1.size; clear hb1)
  exact bodyPost_ret (v := .tuple #[A4 P, .int .i64 E]) (by simp only [results, Tryz.results25]; go_simp) rfl ⟨rfl, bgo⟩
set_option maxHeartbeats 1000000 in
theorem dpack_2 (h : ∀ W, Calls Tryz.prog 52 #[LD dn g t bl wo co pa le mo, DV 2 s q x k] W fun r w' => r = .returned (.tuple #[A4 P, .int .i64 E]) ∧ Below W.heap.size W w') :
    Calls Tryz.prog 25 #[LD dn g t bl wo co pa le mo, DV 2 s q x k] w fun r w' => r = .returned (.tuple #[A4 P, .int .i64 E]) ∧ Below w.heap.size w w' := by
  have hsm := cell_set_map
  go_enter Tryz.func25, Tryz.ntmps25
  go_wp2_with (go_at_call 52; refine (h _).mono ?_; rintro r w1 ⟨rfl, hb1⟩; obtain ⟨hc1, hf1⟩ := bcell hb1; have hz1_0 : w.heap.size < w1.heap.size := lt_below hb1 ltg; have hl1_0 := Nat.le_of_lt hz1_0; have hz1_1 : w.heap.size + 1 < w1.heap.size := lt_below hb1 ltg; have hl1_1 := Nat.le_of_lt hz1_1; have hz1_2 : w.heap.size + 1 + 1 < w1.heap.size := lt_below hb1 ltg; have hl1_2 := Nat.le_of_lt hz1_2; have hA1 := bnext (w0 := w) bgo hb1; have hs1 := hA1.size; clear hb1)
  exact bodyPost_ret (v := .tuple #[A4 P, .int .i64 E]) (by simp only [results, Tryz.results25]; go_simp) rfl ⟨rfl, bgo⟩
set_option maxHeartbeats 1000000 in
theorem dpack_3 (h : ∀ W, Calls Tryz.prog 53 #[LD dn g t bl wo co pa le mo, DV 3 s q x k] W fun r w' => r = .returned (.tuple #[A4 P, .int .i64 E]) ∧ Below W.heap.size W w') :
    Calls Tryz.prog 25 #[LD dn g t bl wo co pa le mo, DV 3 s q x k] w fun r w' => r = .returned (.tuple #[A4 P, .int .i64 E]) ∧ Below w.heap.size w w' := by
  have hsm := cell_set_map
  go_enter Tryz.func25, Tryz.ntmps25
  go_wp2_with (go_at_call 53; refine (h _).mono ?_; rintro r w1 ⟨rfl, hb1⟩; obtain ⟨hc1, hf1⟩ := bcell hb1; have hz1_0 : w.heap.size < w1.heap.size := lt_below hb1 ltg; have hl1_0 := Nat.le_of_lt hz1_0; have hz1_1 : w.heap.size + 1 < w1.heap.size := lt_below hb1 ltg; have hl1_1 := Nat.le_of_lt hz1_1; have hz1_2 : w.heap.size + 1 + 1 < w1.heap.size := lt_below hb1 ltg; have hl1_2 := Nat.le_of_lt hz1_2; have hA1 := bnext (w0 := w) bgo hb1; have hs1 := hA1.size; clear hb1)
  exact bodyPost_ret (v := .tuple #[A4 P, .int .i64 E]) (by simp only [results, Tryz.results25]; go_simp) rfl ⟨rfl, bgo⟩
set_option maxHeartbeats 1000000 in
theorem dpack_0 (h1 : (c == 1) = false) (h2 : (c == 2) = false) (h3 : (c == 3) = false) :
    Calls Tryz.prog 25 #[LD dn g t bl wo co pa le mo, DV c s q x k] w fun r w' => r = .returned (.tuple #[A4 0, .int .i64 3]) ∧ Below w.heap.size w w' := by
  have hsm := cell_set_map
  rw [Z4_eq]
  go_enter Tryz.func25, Tryz.ntmps25
  go_wp2
  exact bodyPost_ret (by simp only [results, Tryz.results25]; go_simp) rfl ⟨rfl, bgo⟩
end
section
variable (dn : Bool) (g t bl : Int) (wo co pa : Nat) (le mo : Int) (w : World) (x : Int) (s q : Bool) (k J : Nat) (G : Int)
set_option maxHeartbeats 1000000 in
theorem dinf_s : Calls Tryz.prog 52 #[LD dn g t bl wo co pa le mo, DV 2 s true x k] w fun r w' => r = .returned (.tuple #[A4 0, .int .i64 3]) ∧ Below w.heap.size w w' := by
  have hsm := cell_set_map
  rw [Z4_eq]
  go_enter Tryz.func52, Tryz.ntmps52
  go_wp2
  exact bodyPost_ret (by simp only [results, Tryz.results52]; go_simp) rfl ⟨rfl, bgo⟩
set_option maxHeartbeats 1000000 in
theorem dinf_x (hx : (x != 0) = true) : Calls Tryz.prog 52 #[LD dn g t bl wo co pa le mo, DV 2 s false x k] w fun r w' => r = .returned (.tuple #[A4 0, .int .i64 3]) ∧ Below w.heap.size w w' := by
  have hsm := cell_set_map
  rw [Z4_eq]
  go_enter Tryz.func52, Tryz.ntmps52
  go_wp2
  exact bodyPost_ret (by simp only [results, Tryz.results52]; go_simp) rfl ⟨rfl, bgo⟩
set_option maxHeartbeats 1000000 in
theorem dinf_k (hk : decide (W4 k 0 = 0 ∧ W4 k 1 = 0 ∧ W4 k 2 = 0 ∧ W4 k 3 = 0) = false) : Calls Tryz.prog 52 #[LD dn g t bl wo co pa le mo, DV 2 s false 0 k] w fun r w' => r = .returned (.tuple #[A4 0, .int .i64 3]) ∧ Below w.heap.size w w' := by
  have hsm := cell_set_map
  have hq := eq24 (W4 k 0) (W4 k 1) (W4 k 2) (W4 k 3) 0 0 0 0
  rw [hk] at hq
  rw [Z4_eq]
  go_enter Tryz.func52, Tryz.ntmps52
  go_wp2
  exact bodyPost_ret (by simp only [results, Tryz.results52]; go_simp) rfl ⟨rfl, bgo⟩
set_option maxHeartbeats 2000000 in
theorem dinf_y
    (cp : ∀ W, Calls Tryz.prog 84 #[LD dn g t bl wo co pa le mo, .int .u64 30, .bool false] W fun r w' => r = .returned (.int .u64 G) ∧ Below W.heap.size W w')
    (cj : ∀ W, Calls Tryz.prog 81 #[LD dn g t bl wo co pa le mo, .bool s, .int .u64 G, Z4] W fun r w' => r = .returned (A4 J) ∧ Below W.heap.size W w') :
    Calls Tryz.prog 52 #[LD dn g t bl wo co pa le mo, DV 2 s false 0 0] w fun r w' => r = .returned (.tuple #[A4 J, .int .i64 0]) ∧ Below w.heap.size w w' := by
  have hsm := cell_set_map
  have hz : DV 2 s false 0 0 = .agg #[.int .i64 2, .bool s, .bool false, .int .i64 0, .int .u64 0, .int .u64 0, .int .u64 0, .int .u64 0] := by unfold DV; simp only [W4_zero]
  rw [hz]
  unfold Z4 at *
  have hq := eq24 0 0 0 0 0 0 0 0
  simp only [and_self, decide_true] at hq
  go_enter Tryz.func52, Tryz.ntmps52
  go_wp2
  refine wp_tail 7 (by kernel_rfl) (by kernel_rfl) (by kernel_rfl) (fun _ _ d _ _ h => by cases d <;> exact h) fun hne hcell => ?_
  simp only [List.take_succ_cons, List.take_zero, List.drop_succ_cons, List.drop_zero]
  repeat go_big_quiet_step (fail)
  go_big_quiet_step ((go_at_call 84; exact calls_wd _ bk_next (cp _)))
  repeat go_big_quiet_step (fail)
  go_big_quiet_step ((go_at_call 81; exact calls_wd _ bk_next (cj _)))
  repeat go_big_quiet_step (fail)
  refine wpQuiet_nil fun w1 hb1 => ?_
  obtain ⟨hc1, hf1⟩ := bcell hb1; have hz1_0 : w.heap.size < w1.heap.size := lt_below hb1 ltg; have hl1_0 := Nat.le_of_lt hz1_0; have hz1_1 : w.heap.size + 1 < w1.heap.size := lt_below hb1 ltg; have hl1_1 := Nat.le_of_lt hz1_1; have hz1_2 : w.heap.size + 1 + 1 < w1.heap.size := lt_below hb1 ltg; have hl1_2 := Nat.le_of_lt hz1_2; have hA1 := bnext (w0 := w) bgo hb1; have hs1 := hA1.size; clear hb1
  go_wp2
  exact bodyPost_ret (v := .tuple #[A4 J, .int .i64 0]) (by simp only [results, Tryz.results52]; go_simp) rfl ⟨rfl, bgo⟩
set_option maxHeartbeats 1000000 in
theorem dnan_x (hx : (x != 0) = true) : Calls Tryz.prog 53 #[LD dn g t bl wo co pa le mo, DV 3 s q x k] w fun r w' => r = .returned (.tuple #[A4 0, .int .i64 3]) ∧ Below w.heap.size w w' := by
  have hsm := cell_set_map
  rw [Z4_eq]
  go_enter Tryz.func53, Tryz.ntmps53
  go_wp2
  exact bodyPost_ret (by simp only [results, Tryz.results53]; go_simp) rfl ⟨rfl, bgo⟩
variable (Q : Int) (cc : ∀ W, Calls Tryz.prog 77 #[A4 k, A4 pa] W fun r w' => r = .returned (.int .i64 Q) ∧ Below W.heap.size W w')
include cc
set_option maxHeartbeats 1000000 in
theorem dnan_k (hQ : 0 ≤ Q) : Calls Tryz.prog 53 #[LD dn g t bl wo co pa le mo, DV 3 s q 0 k] w fun r w' => r = .returned (.tuple #[A4 0, .int .i64 3]) ∧ Below w.heap.size w w' := by
  have hsm := cell_set_map
  rw [Z4_eq]
  go_enter Tryz.func53, Tryz.ntmps53
  go_wp2_with (go_at_call 77; refine (cc _).mono ?_; rintro r w1 ⟨rfl, hb1⟩; obtain ⟨hc1, hf1⟩ := bcell hb1; have hz1_0 : w.heap.size < w1.heap.size := lt_below hb1 ltg; have hl1_0 := Nat.le_of_lt hz1_0; have hz1_1 : w.heap.size + 1 < w1.heap.size := lt_below hb1 ltg; have hl1_1 := Nat.le_of_lt hz1_1; have hz1_2 : w.heap.size + 1 + 1 < w1.heap.size := lt_below hb1 ltg; have hl1_2 := Nat.le_of_lt hz1_2; have hz1_3 : w.heap.size + 1 + 1 + 1 < w1.heap.size := lt_below hb1 ltg; have hl1_3 := Nat.le_of_lt hz1_3; have hA1 := bnext (w0 := w) bgo hb1; have hs1 := hA1.size; clear hb1)
  exact bodyPost_ret (by simp only [results, Tryz.results53]; go_simp) rfl ⟨rfl, bgo⟩
set_option maxHeartbeats 2000000 in
theorem dnan_y (R : Nat) (hQ : ¬ 0 ≤ Q)
    (cp : ∀ W, Calls Tryz.prog 84 #[LD dn g t bl wo co pa le mo, .int .u64 31, .bool q] W fun r w' => r = .returned (.int .u64 G) ∧ Below W.heap.size W w')
    (cw : ∀ W, Calls Tryz.prog 83 #[LD dn g t bl wo co pa le mo, A4 k] W fun r w' => r = .returned (A4 R) ∧ Below W.heap.size W w')
    (cj : ∀ W, Calls Tryz.prog 81 #[LD dn g t bl wo co pa le mo, .bool s, .int .u64 G, A4 R] W fun r w' => r = .returned (A4 J) ∧ Below W.heap.size W w') :
    Calls Tryz.prog 53 #[LD dn g t bl wo co pa le mo, DV 3 s q 0 k] w fun r w' => r = .returned (.tuple #[A4 J, .int .i64 0]) ∧ Below w.heap.size w w' := by
  have hsm := cell_set_map
  go_enter Tryz.func53, Tryz.ntmps53
  go_wp2_with (go_at_call 77; refine (cc _).mono ?_; rintro r w1 ⟨rfl, hb1⟩; obtain ⟨hc1, hf1⟩ := bcell hb1; have hz1_0 : w.heap.size < w1.heap.size := lt_below hb1 ltg; have hl1_0 := Nat.le_of_lt hz1_0; have hz1_1 : w.heap.size + 1 < w1.heap.size := lt_below hb1 ltg; have hl1_1 := Nat.le_of_lt hz1_1; have hz1_2 : w.heap.size + 1 + 1 < w1.heap.size := lt_below hb1 ltg; have hl1_2 := Nat.le_of_lt hz1_2; have hz1_3 : w.heap.size + 1 + 1 + 1 < w1.heap.size := lt_below hb1 ltg; have hl1_3 := Nat.le_of_lt hz1_3; have hA1 := bnext (w0 := w) bgo hb1; have hs1 := hA1.size; clear hb1)
  refine wp_tail 11 (by kernel_rfl) (by kernel_rfl) (by kernel_rfl) (fun _ _ d _ _ h => by cases d <;> exact h) fun hne hcell => ?_
  simp only [List.take_succ_cons, List.take_zero, List.drop_succ_cons, List.drop_zero]
  repeat go_big_quiet_step (fail)
  go_big_quiet_step ((go_at_call 84; exact calls_wd _ bk_next (cp _)))
  repeat go_big_quiet_step (fail)
  go_big_quiet_step ((go_at_call 83; exact calls_wd _ bk_next (cw _)))
  repeat go_big_quiet_step (fail)
  go_big_quiet_step ((go_at_call 81; exact calls_wd _ bk_next (cj _)))
  repeat go_big_quiet_step (fail)
  refine wpQuiet_nil fun w2 hb2 => ?_
  obtain ⟨hc2, hf2⟩ := bcell hb2; have hz2_0 : w.heap.size < w2.heap.size := lt_below hb2 ltg; have hl2_0 := Nat.le_of_lt hz2_0; have hz2_1 : w.heap.size + 1 < w2.heap.size := lt_below hb2 ltg; have hl2_1 := Nat.le_of_lt hz2_1; have hz2_2 : w.heap.size + 1 + 1 < w2.heap.size := lt_below hb2 ltg; have hl2_2 := Nat.le_of_lt hz2_2; have hz2_3 : w.heap.size + 1 + 1 + 1 < w2.heap.size := lt_below hb2 ltg; have hl2_3 := Nat.le_of_lt hz2_3; have hA2 := bnext (w0 := w) bgo hb2; have hs2 := hA2.size; clear hb2
  go_wp2
  exact bodyPost_ret (v := .tuple #[A4 J, .int .i64 0]) (by simp only [results, Tryz.results53]; go_simp) rfl ⟨rfl, bgo⟩
end
end
end Go.Proofs.YtehgnckgmdkfmaaGreatDoor
