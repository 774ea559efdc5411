/-
  Texts that the proof leans on.
-/
import Derived.Test.YtpemdcnneabbfaaDoorJ25
import Derived.Test.YtpemdcnneabbfaaDoorJ26
import Derived.Test.YtpemdcnneabbfaaDoorJ3
set_option linter.unusedVariables false
set_option linter.unusedSectionVars false
set_option linter.unusedSimpArgs false
set_option maxRecDepth 20000
namespace Go.Proofs.YtpemdcnneabbfaaDoor
open Go.RowKit
section
section
variable (f e : Nat) (l m : Int) (w : World) (c x : Int) (s : Bool) (k : Nat)
set_option maxHeartbeats 1000000 in
theorem packInf_g : Calls Tryd.prog 40 #[LV f e l m, DV c s true x k] w fun x w' => x = .returned (.tuple #[Z4, .int .i64 3]) ∧ Below w.heap.size w w' := by
  go_enter Tryd.func40, Tryd.ntmps40
  go_wp2
  have hsm := cell_set_map
  exact bodyPost_ret (v := .tuple #[Z4, .int .i64 3]) (by simp only [results, Tryd.results40]; go_simp) rfl ⟨rfl, bgo⟩
set_option maxHeartbeats 1000000 in
theorem packInf_x (hx : (x != 0) = true) : Calls Tryd.prog 40 #[LV f e l m, DV c s false x k] w fun x w' => x = .returned (.tuple #[Z4, .int .i64 3]) ∧ Below w.heap.size w w' := by
  go_enter Tryd.func40, Tryd.ntmps40
  go_wp2
  have hsm := cell_set_map
  exact bodyPost_ret (v := .tuple #[Z4, .int .i64 3]) (by simp only [results, Tryd.results40]; go_simp) rfl ⟨rfl, bgo⟩
set_option maxHeartbeats 1000000 in
theorem packInf_k (hk : decide (W4 k 0 = 0 ∧ W4 k 1 = 0 ∧ W4 k 2 = 0 ∧ W4 k 3 = 0) = false) : Calls Tryd.prog 40 #[LV f e l m, DV c s false 0 k] w fun x w' => x = .returned (.tuple #[Z4, .int .i64 3]) ∧ Below w.heap.size w w' := by
  have h24 := eq24 (W4 k 0) (W4 k 1) (W4 k 2) (W4 k 3) 0 0 0 0
  rw [hk] at h24
  clear hk
  go_enter Tryd.func40, Tryd.ntmps40
  go_wp2
  have hsm := cell_set_map
  exact bodyPost_ret (v := .tuple #[Z4, .int .i64 3]) (by simp only [results, Tryd.results40]; go_simp) rfl ⟨rfl, bgo⟩
set_option maxHeartbeats 1000000 in
theorem packInf_ok (sp : Int) (R : Nat)
    (c20 : ∀ w, Calls Tryd.prog 28 #[LV f e l m] w fun x w' => x = .returned (.int .u64 sp) ∧ Below w.heap.size w w')
    (c40 : ∀ w, Calls Tryd.prog 66 #[LV f e l m, .bool s, .int .u64 sp, Z4] w fun x w' => x = .returned (A4 R) ∧ Below w.heap.size w w') :
    Calls Tryd.prog 40 #[LV f e l m, .agg #[.int .i64 c, .bool s, .bool false, .int .i64 0, .int .u64 0, .int .u64 0, .int .u64 0, .int .u64 0]] w fun x w' => x = .returned (.tuple #[A4 R, .int .i64 0]) ∧ Below w.heap.size w w' := by
  have h24 := eq24 0 0 0 0 0 0 0 0
  rw [decide_eq_true (by decide)] at h24
  go_enter Tryd.func40, Tryd.ntmps40
  go_wp2
  refine wp_tail 7 (by kernel_rfl) (by kernel_rfl) (by kernel_rfl) (fun _ _ d _ _ h => by cases d <;> exact h) fun hne hcell => ?_
  simp only [List.take_succ_cons, List.take_zero, List.drop_succ_cons, List.drop_zero]
  repeat go_big_quiet_step (fail)
  go_big_quiet_step ((go_at_call 28; exact calls_wd _ bk_next (c20 _)))
  repeat go_big_quiet_step (fail)
  go_big_quiet_step ((go_at_call 66; exact calls_wd _ bk_next (c40 _)))
  refine wpQuiet_nil fun w1 hb1 => ?_
  obtain ⟨hc1, hf1⟩ := bcell hb1; have hz1_0 : w.heap.size < w1.heap.size := lt_below hb1 ltg; have hl1_0 := Nat.le_of_lt hz1_0; have hz1_1 : w.heap.size + 1 < w1.heap.size := lt_below hb1 ltg; have hl1_1 := Nat.le_of_lt hz1_1; have hz1_2 : w.heap.size + 1 + 1 < w1.heap.size := lt_below hb1 ltg; have hl1_2 := Nat.le_of_lt hz1_2; have hA1 := bnext (w0 := w) bgo hb1; have hs1 := hA1.size; clear hb1
  have hsm := cell_set_map
  go_wp2
  exact bodyPost_ret (v := .tuple #[A4 R, .int .i64 0]) (by simp only [results, Tryd.results40]; go_simp) rfl ⟨rfl, bgo⟩
end
end
section
section
variable (f e : Nat) (l m : Int) (w : World) (c x : Int) (s g : Bool) (k : Nat) (L : Int) (hf : 2 ≤ f ∧ f ≤ 240)
  (c46 : ∀ w, Calls Tryd.prog 46 #[A4 k] w fun x w' => x = .returned (.int .i64 L) ∧ Below w.heap.size w w')
include hf c46
set_option maxHeartbeats 1000000 in
theorem packNaN_x (hx : (x != 0) = true) : Calls Tryd.prog 41 #[LV f e l m, DV c s g x k] w fun x w' => x = .returned (.tuple #[Z4, .int .i64 3]) ∧ Below w.heap.size w w' := by
  go_enter Tryd.func41, Tryd.ntmps41
  go_wp2
  refine wp_whole (by kernel_rfl) (by kernel_rfl) fun hne hcell => ?_
  repeat go_big_quiet_step (fail)
  refine wpQuiet_nil fun w1 hb1 => ?_
  obtain ⟨hc1, hf1⟩ := bcell hb1; have hz1_0 : w.heap.size < w1.heap.size := lt_below hb1 ltg; have hl1_0 := Nat.le_of_lt hz1_0; have hz1_1 : w.heap.size + 1 < w1.heap.size := lt_below hb1 ltg; have hl1_1 := Nat.le_of_lt hz1_1; have hz1_2 : w.heap.size + 1 + 1 < w1.heap.size := lt_below hb1 ltg; have hl1_2 := Nat.le_of_lt hz1_2; have hz1_3 : w.heap.size + 1 + 1 + 1 < w1.heap.size := lt_below hb1 ltg; have hl1_3 := Nat.le_of_lt hz1_3; have hA1 := bnext (w0 := w) bgo hb1; have hs1 := hA1.size; clear hb1
  have hsm := cell_set_map
  go_wp2
  exact bodyPost_ret (v := .tuple #[Z4, .int .i64 3]) (by simp only [results, Tryd.results41]; go_simp) rfl ⟨rfl, bgo⟩
set_option maxHeartbeats 1000000 in
theorem packNaN_len (hL : (f : Int) - 1 < L) : Calls Tryd.prog 41 #[LV f e l m, DV c s g 0 k] w fun x w' => x = .returned (.tuple #[Z4, .int .i64 3]) ∧ Below w.heap.size w w' := by
  go_enter Tryd.func41, Tryd.ntmps41
  go_wp2
  refine wp_whole (by kernel_rfl) (by kernel_rfl) fun hne hcell => ?_
  repeat go_big_quiet_step (fail)
  go_big_quiet_step ((go_at_call 46; exact calls_wd _ bk_next (c46 _)))
  repeat go_big_quiet_step (fail)
  refine wpQuiet_nil fun w1 hb1 => ?_
  obtain ⟨hc1, hf1⟩ := bcell hb1; have hz1_0 : w.heap.size < w1.heap.size := lt_below hb1 ltg; have hl1_0 := Nat.le_of_lt hz1_0; have hz1_1 : w.heap.size + 1 < w1.heap.size := lt_below hb1 ltg; have hl1_1 := Nat.le_of_lt hz1_1; have hz1_2 : w.heap.size + 1 + 1 < w1.heap.size := lt_below hb1 ltg; have hl1_2 := Nat.le_of_lt hz1_2; have hz1_3 : w.heap.size + 1 + 1 + 1 < w1.heap.size := lt_below hb1 ltg; have hl1_3 := Nat.le_of_lt hz1_3; have hA1 := bnext (w0 := w) bgo hb1; have hs1 := hA1.size; clear hb1
  have hsm := cell_set_map
  go_wp2
  exact bodyPost_ret (v := .tuple #[Z4, .int .i64 3]) (by simp only [results, Tryd.results41]; go_simp) rfl ⟨rfl, bgo⟩
set_option maxHeartbeats 1000000 in
theorem packNaN_0 (hL : ¬ (f : Int) - 1 < L) (hL0 : L = 0) : Calls Tryd.prog 41 #[LV f e l m, DV c s true 0 k] w fun x w' => x = .returned (.tuple #[Z4, .int .i64 3]) ∧ Below w.heap.size w w' := by
  subst hL0
  go_enter Tryd.func41, Tryd.ntmps41
  go_wp2
  refine wp_whole (by kernel_rfl) (by kernel_rfl) fun hne hcell => ?_
  repeat go_big_quiet_step (fail)
  go_big_quiet_step ((go_at_call 46; exact calls_wd _ bk_next (c46 _)))
  repeat go_big_quiet_step (fail)
  refine wpQuiet_nil fun w1 hb1 => ?_
  obtain ⟨hc1, hf1⟩ := bcell hb1; have hz1_0 : w.heap.size < w1.heap.size := lt_below hb1 ltg; have hl1_0 := Nat.le_of_lt hz1_0; have hz1_1 : w.heap.size + 1 < w1.heap.size := lt_below hb1 ltg; have hl1_1 := Nat.le_of_lt hz1_1; have hz1_2 : w.heap.size + 1 + 1 < w1.heap.size := lt_below hb1 ltg; have hl1_2 := Nat.le_of_lt hz1_2; have hz1_3 : w.heap.size + 1 + 1 + 1 < w1.heap.size := lt_below hb1 ltg; have hl1_3 := Nat.le_of_lt hz1_3; have hA1 := bnext (w0 := w) bgo hb1; have hs1 := hA1.size; clear hb1
  have hsm := cell_set_map
  go_wp2_with (go_at_call 46; refine (c46 _).mono ?_; rintro x w2 ⟨rfl, hb2⟩; obtain ⟨hc2, hf2⟩ := bcell hb2; have hz2_0 : w.heap.size < w2.heap.size := lt_below hb2 ltg; have hl2_0 := Nat.le_of_lt hz2_0; have hz2_1 : w.heap.size + 1 < w2.heap.size := lt_below hb2 ltg; have hl2_1 := Nat.le_of_lt hz2_1; have hz2_2 : w.heap.size + 1 + 1 < w2.heap.size := lt_below hb2 ltg; have hl2_2 := Nat.le_of_lt hz2_2; have hz2_3 : w.heap.size + 1 + 1 + 1 < w2.heap.size := lt_below hb2 ltg; have hl2_3 := Nat.le_of_lt hz2_3; have hA2 := bnext (w0 := w) bgo hb2; have hs2 := hA2.size; clear hb2)
  exact bodyPost_ret (v := .tuple #[Z4, .int .i64 3]) (by simp only [results, Tryd.results41]; go_simp) rfl ⟨rfl, bgo⟩
set_option maxHeartbeats 1000000 in
theorem packNaN_g (sp : Int) (R : Nat) (hL : ¬ (f : Int) - 1 < L) (hL0 : (L == 0) = false)
    (c20 : ∀ w, Calls Tryd.prog 28 #[LV f e l m] w fun x w' => x = .returned (.int .u64 sp) ∧ Below w.heap.size w w')
    (c40 : ∀ w, Calls Tryd.prog 66 #[LV f e l m, .bool s, .int .u64 sp, A4 k] w fun x w' => x = .returned (A4 R) ∧ Below w.heap.size w w') :
    Calls Tryd.prog 41 #[LV f e l m, DV c s true 0 k] w fun x w' => x = .returned (.tuple #[A4 R, .int .i64 0]) ∧ Below w.heap.size w w' := by
  go_enter Tryd.func41, Tryd.ntmps41
  go_wp2
  refine wp_whole (by kernel_rfl) (by kernel_rfl) fun hne hcell => ?_
  repeat go_big_quiet_step (fail)
  go_big_quiet_step ((go_at_call 46; exact calls_wd _ bk_next (c46 _)))
  repeat go_big_quiet_step (fail)
  refine wpQuiet_nil fun w1 hb1 => ?_
  obtain ⟨hc1, hf1⟩ := bcell hb1; have hz1_0 : w.heap.size < w1.heap.size := lt_below hb1 ltg; have hl1_0 := Nat.le_of_lt hz1_0; have hz1_1 : w.heap.size + 1 < w1.heap.size := lt_below hb1 ltg; have hl1_1 := Nat.le_of_lt hz1_1; have hz1_2 : w.heap.size + 1 + 1 < w1.heap.size := lt_below hb1 ltg; have hl1_2 := Nat.le_of_lt hz1_2; have hz1_3 : w.heap.size + 1 + 1 + 1 < w1.heap.size := lt_below hb1 ltg; have hl1_3 := Nat.le_of_lt hz1_3; have hA1 := bnext (w0 := w) bgo hb1; have hs1 := hA1.size; clear hb1
  have hsm := cell_set_map
  go_wp2_with (go_at_call 46; refine (c46 _).mono ?_; rintro x w2 ⟨rfl, hb2⟩; obtain ⟨hc2, hf2⟩ := bcell hb2; have hz2_0 : w.heap.size < w2.heap.size := lt_below hb2 ltg; have hl2_0 := Nat.le_of_lt hz2_0; have hz2_1 : w.heap.size + 1 < w2.heap.size := lt_below hb2 ltg; have hl2_1 := Nat.le_of_lt hz2_1; have hz2_2 : w.heap.size + 1 + 1 < w2.heap.size := lt_below hb2 ltg; have hl2_2 := Nat.le_of_lt hz2_2; have hz2_3 : w.heap.size + 1 + 1 + 1 < w2.heap.size := lt_below hb2 ltg; have hl2_3 := Nat.le_of_lt hz2_3; have hA2 := bnext (w0 := w) bgo hb2; have hs2 := hA2.size; clear hb2)
  refine wp_tail 7 (by kernel_rfl) (by kernel_rfl) (by kernel_rfl) (fun _ _ d _ _ h => by cases d <;> exact h) fun hne hcell => ?_
  simp only [List.take_succ_cons, List.take_zero, List.drop_succ_cons, List.drop_zero]
  repeat go_big_quiet_step (fail)
  go_big_quiet_step ((go_at_call 28; exact calls_wd _ bk_next (c20 _)))
  repeat go_big_quiet_step (fail)
  go_big_quiet_step ((go_at_call 66; exact calls_wd _ bk_next (c40 _)))
  refine wpQuiet_nil fun w3 hb3 => ?_
  obtain ⟨hc3, hf3⟩ := bcell hb3; have hz3_0 : w.heap.size < w3.heap.size := lt_below hb3 ltg; have hl3_0 := Nat.le_of_lt hz3_0; have hz3_1 : w.heap.size + 1 < w3.heap.size := lt_below hb3 ltg; have hl3_1 := Nat.le_of_lt hz3_1; have hz3_2 : w.heap.size + 1 + 1 < w3.heap.size := lt_below hb3 ltg; have hl3_2 := Nat.le_of_lt hz3_2; have hz3_3 : w.heap.size + 1 + 1 + 1 < w3.heap.size := lt_below hb3 ltg; have hl3_3 := Nat.le_of_lt hz3_3; have hA3 := bnext (w0 := w) bgo hb3; have hs3 := hA3.size; clear hb3
  go_wp2
  exact bodyPost_ret (v := .tuple #[A4 R, .int .i64 0]) (by simp only [results, Tryd.results41]; go_simp) rfl ⟨rfl, bgo⟩
set_option maxHeartbeats 1000000 in
theorem packNaN_q (sp cr : Int) (Qb Kq R : Nat) (hL : ¬ (f : Int) - 1 < L)
    (c47 : ∀ w, Calls Tryd.prog 47 #[LV f e l m] w fun x w' => x = .returned (A4 Qb) ∧ Below w.heap.size w w')
    (c22 : ∀ w, Calls Tryd.prog 30 #[A4 k, A4 Qb] w fun x w' => x = .returned (.tuple #[A4 Kq, .int .u64 cr]) ∧ Below w.heap.size w w')
    (c20 : ∀ w, Calls Tryd.prog 28 #[LV f e l m] w fun x w' => x = .returned (.int .u64 sp) ∧ Below w.heap.size w w')
    (c40 : ∀ w, Calls Tryd.prog 66 #[LV f e l m, .bool s, .int .u64 sp, A4 Kq] w fun x w' => x = .returned (A4 R) ∧ Below w.heap.size w w') :
    Calls Tryd.prog 41 #[LV f e l m, DV c s false 0 k] w fun x w' => x = .returned (.tuple #[A4 R, .int .i64 0]) ∧ Below w.heap.size w w' := by
  go_enter Tryd.func41, Tryd.ntmps41
  go_wp2
  refine wp_whole (by kernel_rfl) (by kernel_rfl) fun hne hcell => ?_
  repeat go_big_quiet_step (fail)
  go_big_quiet_step ((go_at_call 46; exact calls_wd _ bk_next (c46 _)))
  repeat go_big_quiet_step (fail)
  refine wpQuiet_nil fun w1 hb1 => ?_
  obtain ⟨hc1, hf1⟩ := bcell hb1; have hz1_0 : w.heap.size < w1.heap.size := lt_below hb1 ltg; have hl1_0 := Nat.le_of_lt hz1_0; have hz1_1 : w.heap.size + 1 < w1.heap.size := lt_below hb1 ltg; have hl1_1 := Nat.le_of_lt hz1_1; have hz1_2 : w.heap.size + 1 + 1 < w1.heap.size := lt_below hb1 ltg; have hl1_2 := Nat.le_of_lt hz1_2; have hz1_3 : w.heap.size + 1 + 1 + 1 < w1.heap.size := lt_below hb1 ltg; have hl1_3 := Nat.le_of_lt hz1_3; have hA1 := bnext (w0 := w) bgo hb1; have hs1 := hA1.size; clear hb1
  have hsm := cell_set_map
  go_wp2
  refine wp_tail 4 (by kernel_rfl) (by kernel_rfl) (by kernel_rfl) (fun _ _ d _ _ h => by cases d <;> exact h) fun hne hcell => ?_
  simp only [List.take_succ_cons, List.take_zero, List.drop_succ_cons, List.drop_zero]
  repeat go_big_quiet_step (fail)
  go_big_quiet_step ((go_at_call 47; exact calls_wd _ bk_next (c47 _)))
  repeat go_big_quiet_step (fail)
  go_big_quiet_step ((go_at_call 30; exact calls_wd _ bk_next (c22 _)))
  refine wpQuiet_nil fun w2 hb2 => ?_
  obtain ⟨hc2, hf2⟩ := bcell hb2; have hz2_0 : w.heap.size < w2.heap.size := lt_below hb2 ltg; have hl2_0 := Nat.le_of_lt hz2_0; have hz2_1 : w.heap.size + 1 < w2.heap.size := lt_below hb2 ltg; have hl2_1 := Nat.le_of_lt hz2_1; have hz2_2 : w.heap.size + 1 + 1 < w2.heap.size := lt_below hb2 ltg; have hl2_2 := Nat.le_of_lt hz2_2; have hz2_3 : w.heap.size + 1 + 1 + 1 < w2.heap.size := lt_below hb2 ltg; have hl2_3 := Nat.le_of_lt hz2_3; have hA2 := bnext (w0 := w) bgo hb2; have hs2 := hA2.size; clear hb2
  go_wp2
  refine wp_tail 7 (by kernel_rfl) (by kernel_rfl) (by kernel_rfl) (fun _ _ d _ _ h => by cases d <;> exact h) fun hne hcell => ?_
  simp only [List.take_succ_cons, List.take_zero, List.drop_succ_cons, List.drop_zero]
  repeat go_big_quiet_step (fail)
  go_big_quiet_step ((go_at_call 28; exact calls_wd _ bk_next (c20 _)))
  repeat go_big_quiet_step (fail)
  go_big_quiet_step ((go_at_call 66; exact calls_wd _ bk_next (c40 _)))
  refine wpQuiet_nil fun w3 hb3 => ?_
  obtain ⟨hc3, hf3⟩ := bcell hb3; have hz3_0 : w.heap.size < w3.heap.size := lt_below hb3 ltg; have hl3_0 := Nat.le_of_lt hz3_0; have hz3_1 : w.heap.size + 1 < w3.heap.size := lt_below hb3 ltg; have hl3_1 := Nat.le_of_lt hz3_1; have hz3_2 : w.heap.size + 1 + 1 < w3.heap.size := lt_below hb3 ltg; have hl3_2 := Nat.le_of_lt hz3_2; have hz3_3 : w.heap.size + 1 + 1 + 1 < w3.heap.size := lt_below hb3 ltg; have hl3_3 := Nat.le_of_lt hz3_3; have hA3 := bnext (w0 := w) bgo hb3; have hs3 := hA3.size; clear hb3
  go_wp2
  exact bodyPost_ret (v := .tuple #[A4 R, .int .i64 0]) (by simp only [results, Tryd.results41]; go_simp) rfl ⟨rfl, bgo⟩
end

theorem packInfinite_any (f e : Nat) (l m : Int) (w : World) (s g : Bool) (x : Int) (k : Nat) (h : Fm f e l m) (hk : k < 2 ^ 256) :
    Calls Tryd.prog 40 #[LV f e l m, DV 2 s g x k] w fun r w' => r = .returned (if isD f l m ⟨2, s, g, x, k⟩ then .tuple #[A4 (pk f e l ⟨2, s, g, x, k⟩), .int .i64 0] else .tuple #[Z4, .int .i64 3]) ∧ Below w.heap.size w w' := by
  cases g with
  | true =>
    rw [if_neg (by unfold isD; simp)]
    exact packInf_g f e l m w 2 x s k
  | false =>
    by_cases hx : x = 0
    · subst hx
      by_cases h0 : k = 0
      · subst h0
        rw [if_pos (by unfold isD; simp)]
        have hp1 : 1 ≤ 2 ^ e := Nat.one_le_two_pow
        have c40 := fun w => join_any f e l m s (2 ^ e - 1) 0 w h (by omega) (Nat.two_pow_pos _)
        rw [Z4_eq] at c40
        have hd : DV 2 s false 0 0 = .agg #[.int .i64 2, .bool s, .bool false, .int .i64 0, .int .u64 0, .int .u64 0, .int .u64 0, .int .u64 0] := by
          unfold DV; simp only [W4_zero]
        rw [hd]
        exact packInf_ok f e l m w 2 s _ _ (fun w => special_any f e l m w h) c40
      · rw [if_neg (by unfold isD; simp [h0])]
        refine packInf_k f e l m w 2 s k (decide_eq_false fun hz => h0 ?_)
        refine A4_inj hk (by decide) fun i hi => ?_
        rw [W4_zero]
        have : i = 0 ∨ i = 1 ∨ i = 2 ∨ i = 3 := by omega
        rcases this with rfl | rfl | rfl | rfl
        · exact hz.1
        · exact hz.2.1
        · exact hz.2.2.1
        · exact hz.2.2.2
    · rw [if_neg (by unfold isD; simp [hx])]
      exact packInf_x f e l m w 2 x s k (by simpa using hx)
theorem packNaN_any (f e : Nat) (l m : Int) (w : World) (s g : Bool) (x : Int) (k : Nat) (h : Fm f e l m) (hk : k < 2 ^ 256) :
    Calls Tryd.prog 41 #[LV f e l m, DV 3 s g x k] w fun r w' => r = .returned (if isD f l m ⟨3, s, g, x, k⟩ then .tuple #[A4 (pk f e l ⟨3, s, g, x, k⟩), .int .i64 0] else .tuple #[Z4, .int .i64 3]) ∧ Below w.heap.size w w' := by
  have hf : 2 ≤ f ∧ f ≤ 240 := ⟨h.f2, h.f240⟩
  have c46 := fun w => len4' k w
  have hL1 := len4_le (k := f - 1) hk
  have e1 : ((f - 1 : Nat) : Int) = (f : Int) - 1 := by omega
  rw [e1] at hL1
  have hp1 : 1 ≤ 2 ^ e := Nat.one_le_two_pow
  have hpf : 2 ^ (f - 1) * 4 = 2 ^ (f + 1) := by rw [show (4 : Nat) = 2 ^ 2 by decide, ← Nat.pow_add]; congr 1; omega
  by_cases hx : x = 0
  · subst hx
    by_cases hL : k < 2 ^ (f - 1)
    · have hA : ¬ (f : Int) - 1 < lenL (W4 k) 4 := Int.not_lt.2 (hL1.2 hL)
      cases g with
      | true =>
        by_cases h0 : k = 0
        · rw [if_neg (by unfold isD; simp [h0])]
          exact packNaN_0 f e l m w 3 s k _ hf c46 hA ((len4_zero hk).2 h0)
        · rw [if_pos (by unfold isD; exact Or.inr (Or.inr ⟨rfl, rfl, hL, Or.inl h0⟩))]
          have c40 := fun w => join_any f e l m s (2 ^ e - 1) k w h (by omega) (by omega)
          exact packNaN_g f e l m w 3 s k _ hf c46 _ _ hA (by rw [beq_eq_false_iff_ne]; exact fun h1 => h0 ((len4_zero hk).1 h1)) (fun w => special_any f e l m w h) c40
      | false =>
        rw [if_pos (by unfold isD; exact Or.inr (Or.inr ⟨rfl, rfl, hL, Or.inr rfl⟩))]
        have c40 := fun w => join_any f e l m s (2 ^ e - 1) (k + 2 ^ (f - 1)) w h (by omega) (by omega)
        exact packNaN_q f e l m w 3 s k _ hf c46 _ _ _ _ _ hA (fun w => quiet_any f e l m w h) (fun w => add4 k (2 ^ (f - 1)) w hk (Nat.pow_lt_pow_right (by decide) (by omega))) (fun w => special_any f e l m w h) c40
    · have hB : (f : Int) - 1 < lenL (W4 k) 4 := Int.not_le.1 fun h6 => hL (hL1.1 h6)
      rw [if_neg (by unfold isD; simp; omega)]
      exact packNaN_len f e l m w 3 s g k _ hf c46 hB
  · rw [if_neg (by unfold isD; simp [hx])]
    exact packNaN_x f e l m w 3 x s g k _ hf c46 (by simpa using hx)
end
end Go.Proofs.YtpemdcnneabbfaaDoor
