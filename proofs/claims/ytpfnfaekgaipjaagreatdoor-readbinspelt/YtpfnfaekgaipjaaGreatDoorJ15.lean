/-
  Texts that the proof leans on, joined: Br, Bt, Rl, Ord.
-/
import Derived.Test.YtpfnfaekgaipjaaGreatDoorJ14
import Derived.Test.YtpfnfaekgaipjaaGreatDoorJ1
import Derived.Deep.RegionWith
import Derived.StillTail
import Derived.Below
import Derived.WalkKit
set_option linter.unusedVariables false
set_option linter.unusedSectionVars false
set_option linter.unusedSimpArgs false
set_option maxRecDepth 20000
namespace Go.Proofs.YtpfnfaekgaipjaaGreatDoor
open Go.RowKit

section
variable (f e : Nat) (l m : Int) (w : World) (c x : Int) (s g : Bool) (k : Nat) (L : Int) (hf : 2 ≤ f ∧ f ≤ 240)
  (c46 : ∀ w, Calls Tryz.prog 86 #[A4 k] w fun x w' => x = .returned (.int .i64 L) ∧ Below w.heap.size w w')
include hf c46
set_option maxHeartbeats 1000000 in
theorem packNaN_x (hx : (x != 0) = true) : Calls Tryz.prog 57 #[LV f e l m, DV c s g x k] w fun x w' => x = .returned (.tuple #[Z4, .int .i64 3]) ∧ Below w.heap.size w w' := by
  go_enter Tryz.func57, Tryz.ntmps57
  go_wp2
  refine wp_whole (by kernel_rfl) (by kernel_rfl) fun hne hcell => ?_
  repeat go_big_quiet_step (fail)
  refine wpQuiet_nil fun w1 hb1 => ?_
  obtain ⟨hc1, hf1⟩ := bcell hb1; have hz1_0 : w.heap.size < w1.heap.size := lt_below hb1 ltg; have hl1_0 := Nat.le_of_lt hz1_0; have hz1_1 : w.heap.size + 1 < w1.heap.size := lt_below hb1 ltg; have hl1_1 := Nat.le_of_lt hz1_1; have hz1_2 : w.heap.size + 1 + 1 < w1.heap.size := lt_below hb1 ltg; have hl1_2 := Nat.le_of_lt hz1_2; have hz1_3 : w.heap.size + 1 + 1 + 1 < w1.heap.size := lt_below hb1 ltg; have hl1_3 := Nat.le_of_lt hz1_3; have hA1 := bnext (w0 := w) bgo hb1; have hs1 := hA1.size; clear hb1
  have hsm := cell_set_map
  go_wp2
  exact bodyPost_ret (v := .tuple #[Z4, .int .i64 3]) (by simp only [results, Tryz.results57]; go_simp) rfl ⟨rfl, bgo⟩
set_option maxHeartbeats 1000000 in
theorem packNaN_len (hL : (f : Int) - 1 < L) : Calls Tryz.prog 57 #[LV f e l m, DV c s g 0 k] w fun x w' => x = .returned (.tuple #[Z4, .int .i64 3]) ∧ Below w.heap.size w w' := by
  go_enter Tryz.func57, Tryz.ntmps57
  go_wp2
  refine wp_whole (by kernel_rfl) (by kernel_rfl) fun hne hcell => ?_
  repeat go_big_quiet_step (fail)
  go_big_quiet_step ((go_at_call 86; exact calls_wd _ bk_next (c46 _)))
  repeat go_big_quiet_step (fail)
  refine wpQuiet_nil fun w1 hb1 => ?_
  obtain ⟨hc1, hf1⟩ := bcell hb1; have hz1_0 : w.heap.size < w1.heap.size := lt_below hb1 ltg; have hl1_0 := Nat.le_of_lt hz1_0; have hz1_1 : w.heap.size + 1 < w1.heap.size := lt_below hb1 ltg; have hl1_1 := Nat.le_of_lt hz1_1; have hz1_2 : w.heap.size + 1 + 1 < w1.heap.size := lt_below hb1 ltg; have hl1_2 := Nat.le_of_lt hz1_2; have hz1_3 : w.heap.size + 1 + 1 + 1 < w1.heap.size := lt_below hb1 ltg; have hl1_3 := Nat.le_of_lt hz1_3; have hA1 := bnext (w0 := w) bgo hb1; have hs1 := hA1.size; clear hb1
  have hsm := cell_set_map
  go_wp2
  exact bodyPost_ret (v := .tuple #[Z4, .int .i64 3]) (by simp only [results, Tryz.results57]; go_simp) rfl ⟨rfl, bgo⟩
set_option maxHeartbeats 1000000 in
theorem packNaN_0 (hL : ¬ (f : Int) - 1 < L) (hL0 : L = 0) : Calls Tryz.prog 57 #[LV f e l m, DV c s true 0 k] w fun x w' => x = .returned (.tuple #[Z4, .int .i64 3]) ∧ Below w.heap.size w w' := by
  subst hL0
  go_enter Tryz.func57, Tryz.ntmps57
  go_wp2
  refine wp_whole (by kernel_rfl) (by kernel_rfl) fun hne hcell => ?_
  repeat go_big_quiet_step (fail)
  go_big_quiet_step ((go_at_call 86; exact calls_wd _ bk_next (c46 _)))
  repeat go_big_quiet_step (fail)
  refine wpQuiet_nil fun w1 hb1 => ?_
  obtain ⟨hc1, hf1⟩ := bcell hb1; have hz1_0 : w.heap.size < w1.heap.size := lt_below hb1 ltg; have hl1_0 := Nat.le_of_lt hz1_0; have hz1_1 : w.heap.size + 1 < w1.heap.size := lt_below hb1 ltg; have hl1_1 := Nat.le_of_lt hz1_1; have hz1_2 : w.heap.size + 1 + 1 < w1.heap.size := lt_below hb1 ltg; have hl1_2 := Nat.le_of_lt hz1_2; have hz1_3 : w.heap.size + 1 + 1 + 1 < w1.heap.size := lt_below hb1 ltg; have hl1_3 := Nat.le_of_lt hz1_3; have hA1 := bnext (w0 := w) bgo hb1; have hs1 := hA1.size; clear hb1
  have hsm := cell_set_map
  go_wp2_with (go_at_call 86; refine (c46 _).mono ?_; rintro x w2 ⟨rfl, hb2⟩; obtain ⟨hc2, hf2⟩ := bcell hb2; have hz2_0 : w.heap.size < w2.heap.size := lt_below hb2 ltg; have hl2_0 := Nat.le_of_lt hz2_0; have hz2_1 : w.heap.size + 1 < w2.heap.size := lt_below hb2 ltg; have hl2_1 := Nat.le_of_lt hz2_1; have hz2_2 : w.heap.size + 1 + 1 < w2.heap.size := lt_below hb2 ltg; have hl2_2 := Nat.le_of_lt hz2_2; have hz2_3 : w.heap.size + 1 + 1 + 1 < w2.heap.size := lt_below hb2 ltg; have hl2_3 := Nat.le_of_lt hz2_3; have hA2 := bnext (w0 := w) bgo hb2; have hs2 := hA2.size; clear hb2)
  exact bodyPost_ret (v := .tuple #[Z4, .int .i64 3]) (by simp only [results, Tryz.results57]; go_simp) rfl ⟨rfl, bgo⟩
set_option maxHeartbeats 1000000 in
theorem packNaN_g (sp : Int) (R : Nat) (hL : ¬ (f : Int) - 1 < L) (hL0 : (L == 0) = false)
    (c20 : ∀ w, Calls Tryz.prog 88 #[LV f e l m] w fun x w' => x = .returned (.int .u64 sp) ∧ Below w.heap.size w w')
    (c40 : ∀ w, Calls Tryz.prog 87 #[LV f e l m, .bool s, .int .u64 sp, A4 k] w fun x w' => x = .returned (A4 R) ∧ Below w.heap.size w w') :
    Calls Tryz.prog 57 #[LV f e l m, DV c s true 0 k] w fun x w' => x = .returned (.tuple #[A4 R, .int .i64 0]) ∧ Below w.heap.size w w' := by
  go_enter Tryz.func57, Tryz.ntmps57
  go_wp2
  refine wp_whole (by kernel_rfl) (by kernel_rfl) fun hne hcell => ?_
  repeat go_big_quiet_step (fail)
  go_big_quiet_step ((go_at_call 86; exact calls_wd _ bk_next (c46 _)))
  repeat go_big_quiet_step (fail)
  refine wpQuiet_nil fun w1 hb1 => ?_
  obtain ⟨hc1, hf1⟩ := bcell hb1; have hz1_0 : w.heap.size < w1.heap.size := lt_below hb1 ltg; have hl1_0 := Nat.le_of_lt hz1_0; have hz1_1 : w.heap.size + 1 < w1.heap.size := lt_below hb1 ltg; have hl1_1 := Nat.le_of_lt hz1_1; have hz1_2 : w.heap.size + 1 + 1 < w1.heap.size := lt_below hb1 ltg; have hl1_2 := Nat.le_of_lt hz1_2; have hz1_3 : w.heap.size + 1 + 1 + 1 < w1.heap.size := lt_below hb1 ltg; have hl1_3 := Nat.le_of_lt hz1_3; have hA1 := bnext (w0 := w) bgo hb1; have hs1 := hA1.size; clear hb1
  have hsm := cell_set_map
  go_wp2_with (go_at_call 86; refine (c46 _).mono ?_; rintro x w2 ⟨rfl, hb2⟩; obtain ⟨hc2, hf2⟩ := bcell hb2; have hz2_0 : w.heap.size < w2.heap.size := lt_below hb2 ltg; have hl2_0 := Nat.le_of_lt hz2_0; have hz2_1 : w.heap.size + 1 < w2.heap.size := lt_below hb2 ltg; have hl2_1 := Nat.le_of_lt hz2_1; have hz2_2 : w.heap.size + 1 + 1 < w2.heap.size := lt_below hb2 ltg; have hl2_2 := Nat.le_of_lt hz2_2; have hz2_3 : w.heap.size + 1 + 1 + 1 < w2.heap.size := lt_below hb2 ltg; have hl2_3 := Nat.le_of_lt hz2_3; have hA2 := bnext (w0 := w) bgo hb2; have hs2 := hA2.size; clear hb2)
  refine wp_tail 7 (by kernel_rfl) (by kernel_rfl) (by kernel_rfl) (fun _ _ d _ _ h => by cases d <;> exact h) fun hne hcell => ?_
  simp only [List.take_succ_cons, List.take_zero, List.drop_succ_cons, List.drop_zero]
  repeat go_big_quiet_step (fail)
  go_big_quiet_step ((go_at_call 88; exact calls_wd _ bk_next (c20 _)))
  repeat go_big_quiet_step (fail)
  go_big_quiet_step ((go_at_call 87; exact calls_wd _ bk_next (c40 _)))
  refine wpQuiet_nil fun w3 hb3 => ?_
  obtain ⟨hc3, hf3⟩ := bcell hb3; have hz3_0 : w.heap.size < w3.heap.size := lt_below hb3 ltg; have hl3_0 := Nat.le_of_lt hz3_0; have hz3_1 : w.heap.size + 1 < w3.heap.size := lt_below hb3 ltg; have hl3_1 := Nat.le_of_lt hz3_1; have hz3_2 : w.heap.size + 1 + 1 < w3.heap.size := lt_below hb3 ltg; have hl3_2 := Nat.le_of_lt hz3_2; have hz3_3 : w.heap.size + 1 + 1 + 1 < w3.heap.size := lt_below hb3 ltg; have hl3_3 := Nat.le_of_lt hz3_3; have hA3 := bnext (w0 := w) bgo hb3; have hs3 := hA3.size; clear hb3
  go_wp2
  exact bodyPost_ret (v := .tuple #[A4 R, .int .i64 0]) (by simp only [results, Tryz.results57]; go_simp) rfl ⟨rfl, bgo⟩
set_option maxHeartbeats 1000000 in
theorem packNaN_q (sp cr : Int) (Qb Kq R : Nat) (hL : ¬ (f : Int) - 1 < L)
    (c47 : ∀ w, Calls Tryz.prog 90 #[LV f e l m] w fun x w' => x = .returned (A4 Qb) ∧ Below w.heap.size w w')
    (c22 : ∀ w, Calls Tryz.prog 89 #[A4 k, A4 Qb] w fun x w' => x = .returned (.tuple #[A4 Kq, .int .u64 cr]) ∧ Below w.heap.size w w')
    (c20 : ∀ w, Calls Tryz.prog 88 #[LV f e l m] w fun x w' => x = .returned (.int .u64 sp) ∧ Below w.heap.size w w')
    (c40 : ∀ w, Calls Tryz.prog 87 #[LV f e l m, .bool s, .int .u64 sp, A4 Kq] w fun x w' => x = .returned (A4 R) ∧ Below w.heap.size w w') :
    Calls Tryz.prog 57 #[LV f e l m, DV c s false 0 k] w fun x w' => x = .returned (.tuple #[A4 R, .int .i64 0]) ∧ Below w.heap.size w w' := by
  go_enter Tryz.func57, Tryz.ntmps57
  go_wp2
  refine wp_whole (by kernel_rfl) (by kernel_rfl) fun hne hcell => ?_
  repeat go_big_quiet_step (fail)
  go_big_quiet_step ((go_at_call 86; exact calls_wd _ bk_next (c46 _)))
  repeat go_big_quiet_step (fail)
  refine wpQuiet_nil fun w1 hb1 => ?_
  obtain ⟨hc1, hf1⟩ := bcell hb1; have hz1_0 : w.heap.size < w1.heap.size := lt_below hb1 ltg; have hl1_0 := Nat.le_of_lt hz1_0; have hz1_1 : w.heap.size + 1 < w1.heap.size := lt_below hb1 ltg; have hl1_1 := Nat.le_of_lt hz1_1; have hz1_2 : w.heap.size + 1 + 1 < w1.heap.size := lt_below hb1 ltg; have hl1_2 := Nat.le_of_lt hz1_2; have hz1_3 : w.heap.size + 1 + 1 + 1 < w1.heap.size := lt_below hb1 ltg; have hl1_3 := Nat.le_of_lt hz1_3; have hA1 := bnext (w0 := w) bgo hb1; have hs1 := hA1.size; clear hb1
  have hsm := cell_set_map
  go_wp2
  refine wp_tail 4 (by kernel_rfl) (by kernel_rfl) (by kernel_rfl) (fun _ _ d _ _ h => by cases d <;> exact h) fun hne hcell => ?_
  simp only [List.take_succ_cons, List.take_zero, List.drop_succ_cons, List.drop_zero]
  repeat go_big_quiet_step (fail)
  go_big_quiet_step ((go_at_call 90; exact calls_wd _ bk_next (c47 _)))
  repeat go_big_quiet_step (fail)
  go_big_quiet_step ((go_at_call 89; exact calls_wd _ bk_next (c22 _)))
  refine wpQuiet_nil fun w2 hb2 => ?_
  obtain ⟨hc2, hf2⟩ := bcell hb2; have hz2_0 : w.heap.size < w2.heap.size := lt_below hb2 ltg; have hl2_0 := Nat.le_of_lt hz2_0; have hz2_1 : w.heap.size + 1 < w2.heap.size := lt_below hb2 ltg; have hl2_1 := Nat.le_of_lt hz2_1; have hz2_2 : w.heap.size + 1 + 1 < w2.heap.size := lt_below hb2 ltg; have hl2_2 := Nat.le_of_lt hz2_2; have hz2_3 : w.heap.size + 1 + 1 + 1 < w2.heap.size := lt_below hb2 ltg; have hl2_3 := Nat.le_of_lt hz2_3; have hA2 := bnext (w0 := w) bgo hb2; have hs2 := hA2.size; clear hb2
  go_wp2
  refine wp_tail 7 (by kernel_rfl) (by kernel_rfl) (by kernel_rfl) (fun _ _ d _ _ h => by cases d <;> exact h) fun hne hcell => ?_
  simp only [List.take_succ_cons, List.take_zero, List.drop_succ_cons, List.drop_zero]
  repeat go_big_quiet_step (fail)
  go_big_quiet_step ((go_at_call 88; exact calls_wd _ bk_next (c20 _)))
  repeat go_big_quiet_step (fail)
  go_big_quiet_step ((go_at_call 87; exact calls_wd _ bk_next (c40 _)))
  refine wpQuiet_nil fun w3 hb3 => ?_
  obtain ⟨hc3, hf3⟩ := bcell hb3; have hz3_0 : w.heap.size < w3.heap.size := lt_below hb3 ltg; have hl3_0 := Nat.le_of_lt hz3_0; have hz3_1 : w.heap.size + 1 < w3.heap.size := lt_below hb3 ltg; have hl3_1 := Nat.le_of_lt hz3_1; have hz3_2 : w.heap.size + 1 + 1 < w3.heap.size := lt_below hb3 ltg; have hl3_2 := Nat.le_of_lt hz3_2; have hz3_3 : w.heap.size + 1 + 1 + 1 < w3.heap.size := lt_below hb3 ltg; have hl3_3 := Nat.le_of_lt hz3_3; have hA3 := bnext (w0 := w) bgo hb3; have hs3 := hA3.size; clear hb3
  go_wp2
  exact bodyPost_ret (v := .tuple #[A4 R, .int .i64 0]) (by simp only [results, Tryz.results57]; go_simp) rfl ⟨rfl, bgo⟩
end

theorem packInfinite_any (f e : Nat) (l m : Int) (w : World) (s g : Bool) (x : Int) (k : Nat) (h : Fm f e l m) (hk : k < 2 ^ 256) :
    Calls Tryz.prog 56 #[LV f e l m, DV 2 s g x k] w fun r w' => r = .returned (if isD f l m ⟨2, s, g, x, k⟩ then .tuple #[A4 (pk f e l ⟨2, s, g, x, k⟩), .int .i64 0] else .tuple #[Z4, .int .i64 3]) ∧ Below w.heap.size w w' := by
  cases g with
  | true =>
    rw [if_neg (by unfold isD; simp)]
    exact packInf_g f e l m w 2 x s k
  | false =>
    by_cases hx : x = 0
    · subst hx
      by_cases h0 : k = 0
      · subst h0
        rw [if_pos (by unfold isD; simp)]
        have hp1 : 1 ≤ 2 ^ e := Nat.one_le_two_pow
        have c40 := fun w => join_any f e l m s (2 ^ e - 1) 0 w h (by omega) (Nat.two_pow_pos _)
        rw [Z4_eq] at c40
        have hd : DV 2 s false 0 0 = .agg #[.int .i64 2, .bool s, .bool false, .int .i64 0, .int .u64 0, .int .u64 0, .int .u64 0, .int .u64 0] := by
          unfold DV; simp only [W4_zero]
        rw [hd]
        exact packInf_ok f e l m w 2 s _ _ (fun w => special_any f e l m w h) c40
      · rw [if_neg (by unfold isD; simp [h0])]
        refine packInf_k f e l m w 2 s k (decide_eq_false fun hz => h0 ?_)
        refine A4_inj hk (by decide) fun i hi => ?_
        rw [W4_zero]
        have : i = 0 ∨ i = 1 ∨ i = 2 ∨ i = 3 := by omega
        rcases this with rfl | rfl | rfl | rfl
        · exact hz.1
        · exact hz.2.1
        · exact hz.2.2.1
        · exact hz.2.2.2
    · rw [if_neg (by unfold isD; simp [hx])]
      exact packInf_x f e l m w 2 x s k (by simpa using hx)
theorem packNaN_any (f e : Nat) (l m : Int) (w : World) (s g : Bool) (x : Int) (k : Nat) (h : Fm f e l m) (hk : k < 2 ^ 256) :
    Calls Tryz.prog 57 #[LV f e l m, DV 3 s g x k] w fun r w' => r = .returned (if isD f l m ⟨3, s, g, x, k⟩ then .tuple #[A4 (pk f e l ⟨3, s, g, x, k⟩), .int .i64 0] else .tuple #[Z4, .int .i64 3]) ∧ Below w.heap.size w w' := by
  have hf : 2 ≤ f ∧ f ≤ 240 := ⟨h.f2, h.f240⟩
  have c46 := fun w => len4' k w
  have hL1 := len4_le (k := f - 1) hk
  have e1 : ((f - 1 : Nat) : Int) = (f : Int) - 1 := by omega
  rw [e1] at hL1
  have hp1 : 1 ≤ 2 ^ e := Nat.one_le_two_pow
  have hpf : 2 ^ (f - 1) * 4 = 2 ^ (f + 1) := by rw [show (4 : Nat) = 2 ^ 2 by decide, ← Nat.pow_add]; congr 1; omega
  by_cases hx : x = 0
  · subst hx
    by_cases hL : k < 2 ^ (f - 1)
    · have hA : ¬ (f : Int) - 1 < lenL (W4 k) 4 := Int.not_lt.2 (hL1.2 hL)
      cases g with
      | true =>
        by_cases h0 : k = 0
        · rw [if_neg (by unfold isD; simp [h0])]
          exact packNaN_0 f e l m w 3 s k _ hf c46 hA ((len4_zero hk).2 h0)
        · rw [if_pos (by unfold isD; exact Or.inr (Or.inr ⟨rfl, rfl, hL, Or.inl h0⟩))]
          have c40 := fun w => join_any f e l m s (2 ^ e - 1) k w h (by omega) (by omega)
          exact packNaN_g f e l m w 3 s k _ hf c46 _ _ hA (by rw [beq_eq_false_iff_ne]; exact fun h1 => h0 ((len4_zero hk).1 h1)) (fun w => special_any f e l m w h) c40
      | false =>
        rw [if_pos (by unfold isD; exact Or.inr (Or.inr ⟨rfl, rfl, hL, Or.inr rfl⟩))]
        have c40 := fun w => join_any f e l m s (2 ^ e - 1) (k + 2 ^ (f - 1)) w h (by omega) (by omega)
        exact packNaN_q f e l m w 3 s k _ hf c46 _ _ _ _ _ hA (fun w => quiet_any f e l m w h) (fun w => add4 k (2 ^ (f - 1)) w hk (Nat.pow_lt_pow_right (by decide) (by omega))) (fun w => special_any f e l m w h) c40
    · have hB : (f : Int) - 1 < lenL (W4 k) 4 := Int.not_le.1 fun h6 => hL (hL1.1 h6)
      rw [if_neg (by unfold isD; simp; omega)]
      exact packNaN_len f e l m w 3 s g k _ hf c46 hB
  · rw [if_neg (by unfold isD; simp [hx])]
    exact packNaN_x f e l m w 3 x s g k _ hf c46 (by simpa using hx)
end Go.Proofs.YtpfnfaekgaipjaaGreatDoor

namespace Go.Proofs.YtpfnfaekgaipjaaGreatDoor
open Go.RowKit

set_option maxHeartbeats 1000000 in
theorem pack_bad (n : Int) (d : Dat) (w : World) (hT : Tab w) (h : ¬ binN n) :
    Calls Tryz.prog 30 #[.int .i64 n, d.v] w fun x w' => x = .returned (.tuple #[Z4, .int .i64 1]) ∧ Below w.heap.size w w' := by
  have c31 := fun w hT => layoutOf_bad n w hT h
  obtain ⟨c, s, g, x, k⟩ := d
  unfold Dat.v
  dsimp only
  go_enter Tryz.func30, Tryz.ntmps30
  go_wp2_with (go_at_call 54; refine (c31 _ ((hT.alloc _).alloc _)).mono ?_; rintro x w1 ⟨rfl, hb1⟩; obtain ⟨hc1, hf1⟩ := bcell hb1; have hz1_0 : w.heap.size < w1.heap.size := lt_below hb1 ltg; have hl1_0 := Nat.le_of_lt hz1_0; have hz1_1 : w.heap.size + 1 < w1.heap.size := lt_below hb1 ltg; have hl1_1 := Nat.le_of_lt hz1_1; have hA1 := bnext (w0 := w) bgo hb1; have hs1 := hA1.size; clear hb1)
  have hsm := cell_set_map
  exact bodyPost_ret (v := .tuple #[Z4, .int .i64 1]) (by simp only [results, Tryz.results30]; go_simp) rfl ⟨rfl, bgo⟩
section
variable (n : Int) (f e : Nat) (l m : Int) (w : World) (hT : Tab w) (c x : Int) (s g : Bool) (k : Nat)
  (c31 : ∀ w, Tab w → Calls Tryz.prog 54 #[.int .i64 n] w fun x w' => x = .returned (.tuple #[LV f e l m, .int .i64 0]) ∧ Below w.heap.size w w')
include hT c31
set_option maxHeartbeats 1000000 in
theorem pack_1 (R : Nat) (E : Int) (c32 : ∀ w, Calls Tryz.prog 55 #[LV f e l m, DV 1 s g x k] w fun x w' => x = .returned (.tuple #[A4 R, .int .i64 E]) ∧ Below w.heap.size w w') :
    Calls Tryz.prog 30 #[.int .i64 n, DV 1 s g x k] w fun x w' => x = .returned (.tuple #[A4 R, .int .i64 E]) ∧ Below w.heap.size w w' := by
  go_enter Tryz.func30, Tryz.ntmps30
  go_wp2_with (first
    | (go_at_call 54; refine (c31 _ ((hT.alloc _).alloc _)).mono ?_; rintro x w1 ⟨rfl, hb1⟩; obtain ⟨hc1, hf1⟩ := bcell hb1; have hz1_0 : w.heap.size < w1.heap.size := lt_below hb1 ltg; have hl1_0 := Nat.le_of_lt hz1_0; have hz1_1 : w.heap.size + 1 < w1.heap.size := lt_below hb1 ltg; have hl1_1 := Nat.le_of_lt hz1_1; have hA1 := bnext (w0 := w) bgo hb1; have hs1 := hA1.size; clear hb1)
    | (go_at_call 55; refine (c32 _).mono ?_; rintro x w2 ⟨rfl, hb2⟩; obtain ⟨hc2, hf2⟩ := bcell hb2; have hz2_0 : w.heap.size < w2.heap.size := lt_below hb2 ltg; have hl2_0 := Nat.le_of_lt hz2_0; have hz2_1 : w.heap.size + 1 < w2.heap.size := lt_below hb2 ltg; have hl2_1 := Nat.le_of_lt hz2_1; have hz2_2 : w1.heap.size < w2.heap.size := lt_below hb2 ltg; have hl2_2 := Nat.le_of_lt hz2_2; have hA2 := bnext (w0 := w) bgo hb2; have hs2 := hA2.size; clear hb2))
  have hsm := cell_set_map
  exact bodyPost_ret (v := .tuple #[A4 R, .int .i64 E]) (by simp only [results, Tryz.results30]; go_simp) rfl ⟨rfl, bgo⟩
set_option maxHeartbeats 1000000 in
theorem pack_2 (R : Nat) (E : Int) (c33 : ∀ w, Calls Tryz.prog 56 #[LV f e l m, DV 2 s g x k] w fun x w' => x = .returned (.tuple #[A4 R, .int .i64 E]) ∧ Below w.heap.size w w') :
    Calls Tryz.prog 30 #[.int .i64 n, DV 2 s g x k] w fun x w' => x = .returned (.tuple #[A4 R, .int .i64 E]) ∧ Below w.heap.size w w' := by
  go_enter Tryz.func30, Tryz.ntmps30
  go_wp2_with (first
    | (go_at_call 54; refine (c31 _ ((hT.alloc _).alloc _)).mono ?_; rintro x w1 ⟨rfl, hb1⟩; obtain ⟨hc1, hf1⟩ := bcell hb1; have hz1_0 : w.heap.size < w1.heap.size := lt_below hb1 ltg; have hl1_0 := Nat.le_of_lt hz1_0; have hz1_1 : w.heap.size + 1 < w1.heap.size := lt_below hb1 ltg; have hl1_1 := Nat.le_of_lt hz1_1; have hA1 := bnext (w0 := w) bgo hb1; have hs1 := hA1.size; clear hb1)
    | (go_at_call 56; refine (c33 _).mono ?_; rintro x w2 ⟨rfl, hb2⟩; obtain ⟨hc2, hf2⟩ := bcell hb2; have hz2_0 : w.heap.size < w2.heap.size := lt_below hb2 ltg; have hl2_0 := Nat.le_of_lt hz2_0; have hz2_1 : w.heap.size + 1 < w2.heap.size := lt_below hb2 ltg; have hl2_1 := Nat.le_of_lt hz2_1; have hz2_2 : w1.heap.size < w2.heap.size := lt_below hb2 ltg; have hl2_2 := Nat.le_of_lt hz2_2; have hA2 := bnext (w0 := w) bgo hb2; have hs2 := hA2.size; clear hb2))
  have hsm := cell_set_map
  exact bodyPost_ret (v := .tuple #[A4 R, .int .i64 E]) (by simp only [results, Tryz.results30]; go_simp) rfl ⟨rfl, bgo⟩
set_option maxHeartbeats 1000000 in
theorem pack_3 (R : Nat) (E : Int) (c34 : ∀ w, Calls Tryz.prog 57 #[LV f e l m, DV 3 s g x k] w fun x w' => x = .returned (.tuple #[A4 R, .int .i64 E]) ∧ Below w.heap.size w w') :
    Calls Tryz.prog 30 #[.int .i64 n, DV 3 s g x k] w fun x w' => x = .returned (.tuple #[A4 R, .int .i64 E]) ∧ Below w.heap.size w w' := by
  go_enter Tryz.func30, Tryz.ntmps30
  go_wp2_with (first
    | (go_at_call 54; refine (c31 _ ((hT.alloc _).alloc _)).mono ?_; rintro x w1 ⟨rfl, hb1⟩; obtain ⟨hc1, hf1⟩ := bcell hb1; have hz1_0 : w.heap.size < w1.heap.size := lt_below hb1 ltg; have hl1_0 := Nat.le_of_lt hz1_0; have hz1_1 : w.heap.size + 1 < w1.heap.size := lt_below hb1 ltg; have hl1_1 := Nat.le_of_lt hz1_1; have hA1 := bnext (w0 := w) bgo hb1; have hs1 := hA1.size; clear hb1)
    | (go_at_call 57; refine (c34 _).mono ?_; rintro x w2 ⟨rfl, hb2⟩; obtain ⟨hc2, hf2⟩ := bcell hb2; have hz2_0 : w.heap.size < w2.heap.size := lt_below hb2 ltg; have hl2_0 := Nat.le_of_lt hz2_0; have hz2_1 : w.heap.size + 1 < w2.heap.size := lt_below hb2 ltg; have hl2_1 := Nat.le_of_lt hz2_1; have hz2_2 : w1.heap.size < w2.heap.size := lt_below hb2 ltg; have hl2_2 := Nat.le_of_lt hz2_2; have hA2 := bnext (w0 := w) bgo hb2; have hs2 := hA2.size; clear hb2))
  have hsm := cell_set_map
  exact bodyPost_ret (v := .tuple #[A4 R, .int .i64 E]) (by simp only [results, Tryz.results30]; go_simp) rfl ⟨rfl, bgo⟩
set_option maxHeartbeats 1000000 in
theorem pack_0 (h1 : (c == 1) = false) (h2 : (c == 2) = false) (h3 : (c == 3) = false) :
    Calls Tryz.prog 30 #[.int .i64 n, DV c s g x k] w fun x w' => x = .returned (.tuple #[Z4, .int .i64 3]) ∧ Below w.heap.size w w' := by
  go_enter Tryz.func30, Tryz.ntmps30
  go_wp2_with (go_at_call 54; refine (c31 _ ((hT.alloc _).alloc _)).mono ?_; rintro x w1 ⟨rfl, hb1⟩; obtain ⟨hc1, hf1⟩ := bcell hb1; have hz1_0 : w.heap.size < w1.heap.size := lt_below hb1 ltg; have hl1_0 := Nat.le_of_lt hz1_0; have hz1_1 : w.heap.size + 1 < w1.heap.size := lt_below hb1 ltg; have hl1_1 := Nat.le_of_lt hz1_1; have hA1 := bnext (w0 := w) bgo hb1; have hs1 := hA1.size; clear hb1)
  have hsm := cell_set_map
  exact bodyPost_ret (v := .tuple #[Z4, .int .i64 3]) (by simp only [results, Tryz.results30]; go_simp) rfl ⟨rfl, bgo⟩
set_option maxHeartbeats 1000000 in
theorem largest_ok (hf : f ≤ 240) (P1 P0 Fr R : Nat) (cr sp : Int) (hsp : 1 ≤ sp ∧ sp ≤ 1000000)
    (c23 : ∀ w, Calls Tryz.prog 118 #[.int .i64 f] w fun x w' => x = .returned (A4 P1) ∧ Below w.heap.size w w')
    (c230 : ∀ w, Calls Tryz.prog 118 #[.int .i64 0] w fun x w' => x = .returned (A4 P0) ∧ Below w.heap.size w w')
    (c39 : ∀ w, Calls Tryz.prog 137 #[A4 P1, A4 P0] w fun x w' => x = .returned (.tuple #[A4 Fr, .int .u64 cr]) ∧ Below w.heap.size w w')
    (c20 : ∀ w, Calls Tryz.prog 88 #[LV f e l m] w fun x w' => x = .returned (.int .u64 sp) ∧ Below w.heap.size w w')
    (c40 : ∀ w, Calls Tryz.prog 87 #[LV f e l m, .bool s, .int .u64 (sp - 1), A4 Fr] w fun x w' => x = .returned (A4 R) ∧ Below w.heap.size w w') :
    Calls Tryz.prog 115 #[.int .i64 n, .bool s] w fun x w' => x = .returned (.tuple #[A4 R, .int .i64 0]) ∧ Below w.heap.size w w' := by
  go_enter Tryz.func115, Tryz.ntmps115
  go_wp2_with (first
    | (go_at_call 54; refine (c31 _ (hT.alloc _)).mono ?_; rintro x w1 ⟨rfl, hb1⟩; obtain ⟨hc1, hf1⟩ := bcell hb1; have hz1_0 : w.heap.size < w1.heap.size := lt_below hb1 ltg; have hl1_0 := Nat.le_of_lt hz1_0; have hA1 := bnext (w0 := w) bgo hb1; have hs1 := hA1.size; clear hb1)
    | (go_at_call 118; refine (c23 _).mono ?_; rintro x w2 ⟨rfl, hb2⟩; obtain ⟨hc2, hf2⟩ := bcell hb2; have hz2_0 : w.heap.size < w2.heap.size := lt_below hb2 ltg; have hl2_0 := Nat.le_of_lt hz2_0; have hz2_1 : w1.heap.size < w2.heap.size := lt_below hb2 ltg; have hl2_1 := Nat.le_of_lt hz2_1; have hA2 := bnext (w0 := w) bgo hb2; have hs2 := hA2.size; clear hb2)
    | (go_at_call 118; refine (c230 _).mono ?_; rintro x w3 ⟨rfl, hb3⟩; obtain ⟨hc3, hf3⟩ := bcell hb3; have hz3_0 : w.heap.size < w3.heap.size := lt_below hb3 ltg; have hl3_0 := Nat.le_of_lt hz3_0; have hz3_1 : w1.heap.size < w3.heap.size := lt_below hb3 ltg; have hl3_1 := Nat.le_of_lt hz3_1; have hA3 := bnext (w0 := w) bgo hb3; have hs3 := hA3.size; clear hb3)
    | (go_at_call 137; refine (c39 _).mono ?_; rintro x w4 ⟨rfl, hb4⟩; obtain ⟨hc4, hf4⟩ := bcell hb4; have hz4_0 : w.heap.size < w4.heap.size := lt_below hb4 ltg; have hl4_0 := Nat.le_of_lt hz4_0; have hz4_1 : w1.heap.size < w4.heap.size := lt_below hb4 ltg; have hl4_1 := Nat.le_of_lt hz4_1; have hA4 := bnext (w0 := w) bgo hb4; have hs4 := hA4.size; clear hb4))
  refine wp_tail 7 (by kernel_rfl) (by kernel_rfl) (by kernel_rfl) (fun _ _ d _ _ h => by cases d <;> exact h) fun hne hcell => ?_
  simp only [List.take_succ_cons, List.take_zero, List.drop_succ_cons, List.drop_zero]
  repeat go_big_quiet_step (fail)
  go_big_quiet_step ((go_at_call 88; exact calls_wd _ bk_next (c20 _)))
  repeat go_big_quiet_step (fail)
  go_big_quiet_step ((go_at_call 87; exact calls_wd _ bk_next (c40 _)))
  refine wpQuiet_nil fun w5 hb5 => ?_
  obtain ⟨hc5, hf5⟩ := bcell hb5; have hz5_0 : w.heap.size < w5.heap.size := lt_below hb5 ltg; have hl5_0 := Nat.le_of_lt hz5_0; have hz5_1 : w1.heap.size < w5.heap.size := lt_below hb5 ltg; have hl5_1 := Nat.le_of_lt hz5_1; have hz5_2 : w4.heap.size < w5.heap.size := lt_below hb5 ltg; have hl5_2 := Nat.le_of_lt hz5_2; have hA5 := bnext (w0 := w) bgo hb5; have hs5 := hA5.size; clear hb5
  have hsm := cell_set_map
  go_wp2
  exact bodyPost_ret (v := .tuple #[A4 R, .int .i64 0]) (by simp only [results, Tryz.results115]; go_simp) rfl ⟨rfl, bgo⟩
end
set_option maxHeartbeats 1000000 in
theorem largest_bad (n : Int) (s : Bool) (w : World) (hT : Tab w) (h : ¬ binN n) :
    Calls Tryz.prog 115 #[.int .i64 n, .bool s] w fun x w' => x = .returned (.tuple #[Z4, .int .i64 1]) ∧ Below w.heap.size w w' := by
  have c31 := fun w hT => layoutOf_bad n w hT h
  go_enter Tryz.func115, Tryz.ntmps115
  go_wp2_with (go_at_call 54; refine (c31 _ (hT.alloc _)).mono ?_; rintro x w1 ⟨rfl, hb1⟩; obtain ⟨hc1, hf1⟩ := bcell hb1; have hz1_0 : w.heap.size < w1.heap.size := lt_below hb1 ltg; have hl1_0 := Nat.le_of_lt hz1_0; have hA1 := bnext (w0 := w) bgo hb1; have hs1 := hA1.size; clear hb1)
  have hsm := cell_set_map
  exact bodyPost_ret (v := .tuple #[Z4, .int .i64 1]) (by simp only [results, Tryz.results115]; go_simp) rfl ⟨rfl, bgo⟩

/-- what Pack answers: the pattern, and the error's number -/
def pkV (n : Int) (d : Dat) : Nat := if binN n ∧ isD (fN n) (leastN n) (mostN n) d then pk (fN n) (eN n) (leastN n) d else 0
def pkE (n : Int) (d : Dat) : Int := if binN n then (if isD (fN n) (leastN n) (mostN n) d then 0 else 3) else 1
theorem pack_any (n : Int) (d : Dat) (w : World) (hT : Tab w) (hk : d.k < 2 ^ 256) :
    Calls Tryz.prog 30 #[.int .i64 n, d.v] w fun x w' => x = .returned (.tuple #[A4 (pkV n d), .int .i64 (pkE n d)]) ∧ Below w.heap.size w w' := by
  by_cases hb : binN n
  · have hF := bin_fm hb
    have c31 := fun w hT => layoutOf_ok n w hT hb
    have key : ∀ d : Dat, Value.tuple #[A4 (pkV n d), .int .i64 (pkE n d)] = if isD (fN n) (leastN n) (mostN n) d then .tuple #[A4 (pk (fN n) (eN n) (leastN n) d), .int .i64 0] else .tuple #[Z4, .int .i64 3] := fun d => by
      unfold pkV pkE
      by_cases hi : isD (fN n) (leastN n) (mostN n) d
      · rw [if_pos ⟨hb, hi⟩, if_pos hb, if_pos hi, if_pos hi]
      · rw [if_neg (fun h => hi h.2), if_pos hb, if_neg hi, if_neg hi, Z4_eq]
    obtain ⟨c, s, g, x, k⟩ := d
    unfold Dat.v
    dsimp only at hk ⊢
    by_cases h1 : c = 1
    · subst h1
      have c32 := fun w => packFinite_any (fN n) (eN n) (leastN n) (mostN n) w s g x k hF hk
      simp only [← key] at c32
      exact pack_1 n _ _ _ _ w hT x s g k c31 _ _ c32
    · by_cases h2 : c = 2
      · subst h2
        have c33 := fun w => packInfinite_any (fN n) (eN n) (leastN n) (mostN n) w s g x k hF hk
        simp only [← key] at c33
        exact pack_2 n _ _ _ _ w hT x s g k c31 _ _ c33
      · by_cases h3 : c = 3
        · subst h3
          have c34 := fun w => packNaN_any (fN n) (eN n) (leastN n) (mostN n) w s g x k hF hk
          simp only [← key] at c34
          exact pack_3 n _ _ _ _ w hT x s g k c31 _ _ c34
        · rw [key, if_neg (by unfold isD; simp [h1, h2, h3])]
          exact pack_0 n _ _ _ _ w hT c x s g k c31 (by simpa using h1) (by simpa using h2) (by simpa using h3)
  · have e1 : pkV n d = 0 := if_neg fun h => hb h.1
    have e2 : pkE n d = 1 := if_neg hb
    rw [e1, e2, Z4_eq]
    exact pack_bad n d w hT hb
def lgV (n : Int) (s : Bool) : Nat := if binN n then (2 ^ eN n - 2) * 2 ^ fN n + (2 ^ fN n - 1) + (if s then 2 ^ (fN n + eN n) else 0) else 0
def lgE (n : Int) : Int := if binN n then 0 else 1
theorem largest_any (n : Int) (s : Bool) (w : World) (hT : Tab w) :
    Calls Tryz.prog 115 #[.int .i64 n, .bool s] w fun x w' => x = .returned (.tuple #[A4 (lgV n s), .int .i64 (lgE n)]) ∧ Below w.heap.size w w' := by
  unfold lgV lgE
  by_cases hb : binN n
  · have hF := bin_fm hb
    rw [if_pos hb, if_pos hb]
    have hf := hF.f240
    have hp := pow_e hF.e2 hF.e15
    have hpc : ((2 : Int) ^ eN n) = ((2 ^ eN n : Nat) : Int) := by simp
    rw [hpc] at hp
    have hp1 : 1 ≤ 2 ^ fN n := Nat.one_le_two_pow
    have hp2 : 2 ^ fN n ≤ 2 ^ (fN n + 1) := Nat.pow_le_pow_right (by decide) (by omega)
    have h256 : 2 ^ fN n < 2 ^ 256 := Nat.pow_lt_pow_right (by decide) (by omega)
    have c39 := fun w => sub4 (2 ^ fN n) (2 ^ 0) w h256 (by decide)
    rw [A4_sub (show 2 ^ 0 ≤ 2 ^ fN n from hp1), if_neg (show ¬ 2 ^ fN n < 2 ^ 0 by omega)] at c39
    have c40 := fun w => join_any (fN n) (eN n) (leastN n) (mostN n) s (2 ^ eN n - 2) (2 ^ fN n - 1) w hF (by omega) (by omega)
    rw [show ((2 ^ eN n - 2 : Nat) : Int) = ((2 ^ eN n - 1 : Nat) : Int) - 1 by omega] at c40
    have c230 := fun w => power_any 0 w (by decide)
    exact largest_ok n _ _ _ _ w hT s (fun w hT => layoutOf_ok n w hT hb) hf _ _ _ _ _ _ (by omega) (fun w => power_any (fN n) w (by omega)) c230 c39 (fun w => special_any _ _ _ _ w hF) c40
  · rw [if_neg hb, if_neg hb, Z4_eq]
    exact largest_bad n s w hT hb

/-- what Unpack answers -/
def unD (n : Int) (B : Nat) : Dat := if goodN n B then unp (fN n) (eN n) (leastN n) B else ⟨0, false, false, 0, 0⟩
def unE (n : Int) (B : Nat) : Int := if goodN n B then 0 else 1
end Go.Proofs.YtpfnfaekgaipjaaGreatDoor

namespace Go.Proofs.YtpfnfaekgaipjaaGreatDoor
open Go.RowKit

set_option maxHeartbeats 400000 in
theorem rbinary_any (n : Int) (w : World) : Calls Tryz.prog 15 #[.int .i64 n] w fun e w' => e = .returned (.bool (decide (binN n))) ∧ w' = w := by
  by_cases h1 : 1 ≤ n
  · by_cases h2 : n ≤ 6
    · rw [decide_eq_true (show binN n from ⟨h1, h2⟩)]
      go_enter Tryz.func15, Tryz.ntmps15
      go_wp2
      go_ret
      exact ⟨rfl, rfl⟩
    · rw [decide_eq_false (show ¬ binN n from fun h => h2 h.2)]
      go_enter Tryz.func15, Tryz.ntmps15
      go_wp2
      go_ret
      exact ⟨rfl, rfl⟩
  · rw [decide_eq_false (show ¬ binN n from fun h => h1 h.1)]
    go_enter Tryz.func15, Tryz.ntmps15
    go_wp2
    go_ret
    exact ⟨rfl, rfl⟩
theorem rfits4 (n : Int) (B : Nat) (hB : B < 2 ^ 256) (w : World) :
    Calls Tryz.prog 59 #[.int .i64 n, A4 B] w fun x w' => x = .returned (.bool (decide (okN n ∧ B < 2 ^ (widthN n).toNat))) ∧ Below w.heap.size w w' := by
  refine (rfits_any n (W4 B) (W4_words B) _ (A4_get B) rfl w).mono ?_
  rintro x w' ⟨rfl, hb⟩
  refine ⟨?_, hb⟩
  have hwd := (fields_bounds n).2.1
  have e : (fitsP n (W4 B)) ↔ (okN n ∧ B < 2 ^ (widthN n).toNat) := by
    unfold fitsP
    rw [lenL_low]
    have := len4_le (k := (widthN n).toNat) hB
    rw [show (((widthN n).toNat : Nat) : Int) = widthN n by omega] at this
    rw [this]
  rw [decide_eq_decide.2 e]
set_option maxHeartbeats 400000 in
theorem rgood_any (n : Int) (B : Nat) (hB : B < 2 ^ 256) (w : World) :
    Calls Tryz.prog 33 #[.int .i64 n, A4 B] w fun x w' => x = .returned (.bool (decide (goodN n B))) ∧ Below w.heap.size w w' := by
  have c35 := fun w => rbinary_any n w
  have c50 := fun w => rfits4 n B hB w
  by_cases hb : binN n
  · have hF := bin_fields hb
    rw [decide_eq_true hb] at c35
    have e : (okN n ∧ B < 2 ^ (widthN n).toNat) ↔ goodN n B := by
      rw [hF.2.2.2.2.1, Int.toNat_natCast]
      exact ⟨fun h => ⟨hb, h.2⟩, fun h => ⟨hF.1, h.2⟩⟩
    rw [decide_eq_decide.2 e] at c50
    generalize decide (goodN n B) = D at *
    clear hF e hb hB
    go_enter Tryz.func33, Tryz.ntmps33
    go_wp2_with (first
      | (go_at_call 15; refine (c35 _).mono ?_; rintro e w1 ⟨rfl, rfl⟩)
      | (go_at_call 59; refine (c50 _).mono ?_; rintro e w2 ⟨rfl, hb2⟩))
    go_ret
    exact ⟨rfl, bnext bgo hb2⟩
  · rw [decide_eq_false hb] at c35
    rw [decide_eq_false (show ¬ goodN n B from fun h => hb h.1)]
    clear hb hB c50
    go_enter Tryz.func33, Tryz.ntmps33
    go_wp2_with (go_at_call 15; refine (c35 _).mono ?_; rintro e w1 ⟨rfl, rfl⟩)
    go_ret
    exact ⟨rfl, bgo⟩
end Go.Proofs.YtpfnfaekgaipjaaGreatDoor

namespace Go.Proofs.YtpfnfaekgaipjaaGreatDoor
open Go.RowKit

section
variable {P : Program} {ops : Array Oper} {Q : Exit → Act → World → Prop} {md : Region.Mode}

/-- how many of the first n are still to come -/
def toCome (listed : Array Bool) : Nat → Nat
  | 0 => 0
  | n + 1 => toCome listed n + (if listed.getD n true then 0 else 1)
theorem toCome_out {listed : Array Bool} {i : Nat} : ∀ n, n ≤ i → toCome (listed.setIfInBounds i true) n = toCome listed n
  | 0, _ => rfl
  | n + 1, h => by unfold toCome; rw [toCome_out n (by omega), getD_set_ne true (by omega)]
theorem toCome_set {listed : Array Bool} {i : Nat} (hu : listed.getD i true = false) : ∀ n, i < n → toCome (listed.setIfInBounds i true) n + 1 = toCome listed n
  | 0, h => by omega
  | n + 1, h => by
    unfold toCome
    by_cases e : i = n
    · subst e
      have hlt : i < listed.size := by
        rcases Nat.lt_or_ge i listed.size with h' | h'
        · exact h'
        · simp [Array.getElem?_eq_none h'] at hu
      rw [toCome_out i (Nat.le_refl _), hu]
      simp [hlt]
    · rw [getD_set_ne true e]
      have := toCome_set hu n (by omega)
      omega
theorem toCome_zero {listed : Array Bool} : ∀ n, toCome listed n = 0 → ∀ i, i < n → listed.getD i true = true
  | 0, _, i, h => by omega
  | n + 1, h, i, hi => by
    unfold toCome at h
    by_cases e : i = n
    · subst e
      by_cases hl : listed.getD i true = true
      · exact hl
      · rw [if_neg hl] at h; omega
    · exact toCome_zero n (by omega) i (by omega)
theorem toCome_least {listed : Array Bool} : ∀ n, 0 < toCome listed n → ∃ i, i < n ∧ listed.getD i true = false ∧ ∀ j, j < i → listed.getD j true = true
  | 0, h => by simp [toCome] at h
  | n + 1, h => by
    by_cases h0 : 0 < toCome listed n
    · obtain ⟨i, h1, h2, h3⟩ := toCome_least n h0
      exact ⟨i, by omega, h2, h3⟩
    · unfold toCome at h
      have hz := toCome_zero (listed := listed) n (by omega)
      refine ⟨n, by omega, ?_, fun j hj => hz j hj⟩
      cases hl : listed.getD n true with
      | false => rfl
      | true => rw [hl, if_pos rfl] at h; omega

/-- of the first n each waits for earlier ones alone -/
def backB (md : Region.Mode) (ops : Array Oper) (n : Nat) : Bool :=
  (List.range n).all fun i => match ops[i]? with
    | some o => o.after.all fun e => !Region.binds md e || decide (e.on < i)
    | none => false
theorem backB_spec {n : Nat} (h : backB md ops n = true) (i : Nat) (hi : i < n) : ∃ o, ops[i]? = some o ∧ ∀ e ∈ o.after, Region.binds md e = true → e.on < i := by
  have h1 := List.all_eq_true.1 h i (List.mem_range.2 hi)
  cases ho : ops[i]? with
  | none => simp only [ho] at h1; cases h1
  | some o =>
    simp only [ho] at h1
    refine ⟨o, rfl, fun e he hb => ?_⟩
    have h2 := Array.all_eq_true_iff_forall_mem.1 h1 e he
    simpa [hb] using h2

theorem getD_true_in {listed : Array Bool} {i : Nat} (hi : i < listed.size) (h : listed.getD i true = true) : listed.getD i false = true := by
  simp [hi] at h ⊢; exact h

/-- what stands when the first n are done -/
def headDone (n m : Nat) : Array Bool := (List.replicate n true ++ List.replicate (m - n) false).toArray

theorem headDone_eq {n : Nat} {listed : Array Bool} (hn : n ≤ ops.size) (inv : HeadInv md ops n listed) (h : ∀ i, i < n → listed.getD i true = true) : listed = headDone n ops.size := by
  apply Array.ext
  · simp [headDone, inv.size]; omega
  · intro i h1 h2
    by_cases hi : i < n
    · have := h i hi
      simp [h1] at this
      rw [this]
      simp [headDone, List.getElem_append, hi]
    · have := inv.tail i (by omega) (by rw [← inv.size]; exact h1)
      simp [h1] at this
      rw [this]
      simp [headDone, List.getElem_append, hi]

theorem toCome_replicate (m : Nat) : ∀ n, n ≤ m → toCome (Array.replicate m false) n = n
  | 0, _ => rfl
  | n + 1, h => by unfold toCome; rw [toCome_replicate m n (by omega)]; simp [show n < m by omega]

/-- all the checks of a region in one -/
def invB (md : Region.Mode) (ops : Array Oper) (n : Nat) : Bool :=
  Region.sinkB md ops n && Region.chainB md ops n && decide (n < ops.size) && backB md ops n && Region.seqB md ops (ops.size - n) n (headDone n ops.size)

/-- what slot t of a frame holds -/
abbrev slot (a : Act) (t : Nat) : Value := a.tmps[t]?.getD undef
theorem slot_put_ne {a : Act} {d t : Nat} {v : Value} (h : d ≠ t) : slot (a.put (some d) v) t = slot a t := by
  simp [slot, Act.put, Array.getElem?_setIfInBounds_ne h]
theorem slot_put {a : Act} {d : Nat} {v : Value} (h : d < a.tmps.size) : slot (a.put (some d) v) d = v := by
  simp [slot, Act.put, h]

/-- what is said of a value stays, whatever memory is made -/
def Stays (p : Value → World → Prop) : Prop := ∀ v w w', p v w → Below w.heap.size w w' → p v w'

/-- each of the first n writes a slot of its own -/
def dstG (l : List Oper) (D : List Nat) (n m : Nat) : Bool :=
  (List.range n).all fun i => (match l[i]? with
    | some o => o.dst == some (D.getD i 0)
    | none => false) && decide (D.getD i 0 < m) && (List.range n).all fun j => j == i || D.getD j 0 != D.getD i 0
theorem dstG_spec {l : List Oper} {D : List Nat} {n m : Nat} (h : dstG l D n m = true) (i : Nat) (hi : i < n) :
    ∃ o, l[i]? = some o ∧ o.dst = some (D.getD i 0) ∧ D.getD i 0 < m ∧ ∀ j, j < n → j ≠ i → D.getD j 0 ≠ D.getD i 0 := by
  have h1 := List.all_eq_true.1 h i (List.mem_range.2 hi)
  cases ho : l[i]? with
  | none => simp [ho] at h1
  | some o =>
    simp only [ho, Bool.and_eq_true, decide_eq_true_eq, beq_iff_eq, List.all_eq_true, Bool.or_eq_true, bne_iff_ne, List.mem_range] at h1
    exact ⟨o, rfl, h1.1.1, h1.1.2, fun j hj hne => (h1.2 j hj).resolve_left hne⟩
/-- what an operation's guard looks at is done ahead of it -/
def gdB (l : List Oper) (n : Nat) : Bool :=
  (List.range n).all fun i => match l[i]? with
    | some o => match o.guard with
      | none => true
      | some (j, _) => decide (j < n) && o.after.any fun e => Region.binds .any e && e.on == j
    | none => false
theorem gdB_spec {l : List Oper} {n : Nat} (h : gdB l n = true) (i : Nat) (hi : i < n) (o : Oper) (ho : l[i]? = some o) (j : Nat) (b : Bool) (hg : o.guard = some (j, b)) :
    j < n ∧ ∃ e ∈ o.after, Region.binds .any e = true ∧ e.on = j := by
  have h1 := List.all_eq_true.1 h i (List.mem_range.2 hi)
  simp only [ho, hg, Bool.and_eq_true, decide_eq_true_eq, Array.any_eq_true', beq_iff_eq] at h1
  obtain ⟨h1, e, he, h2, h3⟩ := h1
  exact ⟨h1, e, he, h2, h3⟩

end
end Go.Proofs.YtpfnfaekgaipjaaGreatDoor
