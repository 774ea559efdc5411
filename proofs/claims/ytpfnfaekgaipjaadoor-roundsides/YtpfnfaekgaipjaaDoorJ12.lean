/-
  Texts that the proof leans on, joined: Bt, Rl, Rw, Oq, Nw, Kn.
-/
import Derived.Test.YtpfnfaekgaipjaaDoorJ11
import Derived.Test.YtpfnfaekgaipjaaDoorJ1
import Derived.Test.YtpfnfaekgaipjaaDoorJ9
import Derived.Test.YtpfnfaekgaipjaaDoorJ10
import Derived.Deep.RegionWith
import Derived.Test.YtpfnfaekgaipjaaDoorJ7
set_option linter.unusedVariables false
set_option linter.unusedSectionVars false
set_option linter.unusedSimpArgs false
set_option maxRecDepth 20000
namespace Go.Proofs.YtpfnfaekgaipjaaDoor
open Go.RowKit

set_option maxHeartbeats 1000000 in
theorem pack_bad (n : Int) (d : Dat) (w : World) (hT : Tab w) (h : ¬ binN n) :
    Calls Tryd.prog 27 #[.int .i64 n, d.v] w fun x w' => x = .returned (.tuple #[Z4, .int .i64 1]) ∧ Below w.heap.size w w' := by
  have c31 := fun w hT => layoutOf_bad n w hT h
  obtain ⟨c, s, g, x, k⟩ := d
  unfold Dat.v
  dsimp only
  go_enter Tryd.func27, Tryd.ntmps27
  go_wp2_with (go_at_call 37; refine (c31 _ ((hT.alloc _).alloc _)).mono ?_; rintro x w1 ⟨rfl, hb1⟩; obtain ⟨hc1, hf1⟩ := bcell hb1; have hz1_0 : w.heap.size < w1.heap.size := lt_below hb1 ltg; have hl1_0 := Nat.le_of_lt hz1_0; have hz1_1 : w.heap.size + 1 < w1.heap.size := lt_below hb1 ltg; have hl1_1 := Nat.le_of_lt hz1_1; have hA1 := bnext (w0 := w) bgo hb1; have hs1 := hA1.size; clear hb1)
  have hsm := cell_set_map
  exact bodyPost_ret (v := .tuple #[Z4, .int .i64 1]) (by simp only [results, Tryd.results27]; go_simp) rfl ⟨rfl, bgo⟩
section
variable (n : Int) (f e : Nat) (l m : Int) (w : World) (hT : Tab w) (c x : Int) (s g : Bool) (k : Nat)
  (c31 : ∀ w, Tab w → Calls Tryd.prog 37 #[.int .i64 n] w fun x w' => x = .returned (.tuple #[LV f e l m, .int .i64 0]) ∧ Below w.heap.size w w')
include hT c31
set_option maxHeartbeats 1000000 in
theorem pack_1 (R : Nat) (E : Int) (c32 : ∀ w, Calls Tryd.prog 38 #[LV f e l m, DV 1 s g x k] w fun x w' => x = .returned (.tuple #[A4 R, .int .i64 E]) ∧ Below w.heap.size w w') :
    Calls Tryd.prog 27 #[.int .i64 n, DV 1 s g x k] w fun x w' => x = .returned (.tuple #[A4 R, .int .i64 E]) ∧ Below w.heap.size w w' := by
  go_enter Tryd.func27, Tryd.ntmps27
  go_wp2_with (first
    | (go_at_call 37; refine (c31 _ ((hT.alloc _).alloc _)).mono ?_; rintro x w1 ⟨rfl, hb1⟩; obtain ⟨hc1, hf1⟩ := bcell hb1; have hz1_0 : w.heap.size < w1.heap.size := lt_below hb1 ltg; have hl1_0 := Nat.le_of_lt hz1_0; have hz1_1 : w.heap.size + 1 < w1.heap.size := lt_below hb1 ltg; have hl1_1 := Nat.le_of_lt hz1_1; have hA1 := bnext (w0 := w) bgo hb1; have hs1 := hA1.size; clear hb1)
    | (go_at_call 38; refine (c32 _).mono ?_; rintro x w2 ⟨rfl, hb2⟩; obtain ⟨hc2, hf2⟩ := bcell hb2; have hz2_0 : w.heap.size < w2.heap.size := lt_below hb2 ltg; have hl2_0 := Nat.le_of_lt hz2_0; have hz2_1 : w.heap.size + 1 < w2.heap.size := lt_below hb2 ltg; have hl2_1 := Nat.le_of_lt hz2_1; have hz2_2 : w1.heap.size < w2.heap.size := lt_below hb2 ltg; have hl2_2 := Nat.le_of_lt hz2_2; have hA2 := bnext (w0 := w) bgo hb2; have hs2 := hA2.size; clear hb2))
  have hsm := cell_set_map
  exact bodyPost_ret (v := .tuple #[A4 R, .int .i64 E]) (by simp only [results, Tryd.results27]; go_simp) rfl ⟨rfl, bgo⟩
set_option maxHeartbeats 1000000 in
theorem pack_2 (R : Nat) (E : Int) (c33 : ∀ w, Calls Tryd.prog 39 #[LV f e l m, DV 2 s g x k] w fun x w' => x = .returned (.tuple #[A4 R, .int .i64 E]) ∧ Below w.heap.size w w') :
    Calls Tryd.prog 27 #[.int .i64 n, DV 2 s g x k] w fun x w' => x = .returned (.tuple #[A4 R, .int .i64 E]) ∧ Below w.heap.size w w' := by
  go_enter Tryd.func27, Tryd.ntmps27
  go_wp2_with (first
    | (go_at_call 37; refine (c31 _ ((hT.alloc _).alloc _)).mono ?_; rintro x w1 ⟨rfl, hb1⟩; obtain ⟨hc1, hf1⟩ := bcell hb1; have hz1_0 : w.heap.size < w1.heap.size := lt_below hb1 ltg; have hl1_0 := Nat.le_of_lt hz1_0; have hz1_1 : w.heap.size + 1 < w1.heap.size := lt_below hb1 ltg; have hl1_1 := Nat.le_of_lt hz1_1; have hA1 := bnext (w0 := w) bgo hb1; have hs1 := hA1.size; clear hb1)
    | (go_at_call 39; refine (c33 _).mono ?_; rintro x w2 ⟨rfl, hb2⟩; obtain ⟨hc2, hf2⟩ := bcell hb2; have hz2_0 : w.heap.size < w2.heap.size := lt_below hb2 ltg; have hl2_0 := Nat.le_of_lt hz2_0; have hz2_1 : w.heap.size + 1 < w2.heap.size := lt_below hb2 ltg; have hl2_1 := Nat.le_of_lt hz2_1; have hz2_2 : w1.heap.size < w2.heap.size := lt_below hb2 ltg; have hl2_2 := Nat.le_of_lt hz2_2; have hA2 := bnext (w0 := w) bgo hb2; have hs2 := hA2.size; clear hb2))
  have hsm := cell_set_map
  exact bodyPost_ret (v := .tuple #[A4 R, .int .i64 E]) (by simp only [results, Tryd.results27]; go_simp) rfl ⟨rfl, bgo⟩
set_option maxHeartbeats 1000000 in
theorem pack_3 (R : Nat) (E : Int) (c34 : ∀ w, Calls Tryd.prog 40 #[LV f e l m, DV 3 s g x k] w fun x w' => x = .returned (.tuple #[A4 R, .int .i64 E]) ∧ Below w.heap.size w w') :
    Calls Tryd.prog 27 #[.int .i64 n, DV 3 s g x k] w fun x w' => x = .returned (.tuple #[A4 R, .int .i64 E]) ∧ Below w.heap.size w w' := by
  go_enter Tryd.func27, Tryd.ntmps27
  go_wp2_with (first
    | (go_at_call 37; refine (c31 _ ((hT.alloc _).alloc _)).mono ?_; rintro x w1 ⟨rfl, hb1⟩; obtain ⟨hc1, hf1⟩ := bcell hb1; have hz1_0 : w.heap.size < w1.heap.size := lt_below hb1 ltg; have hl1_0 := Nat.le_of_lt hz1_0; have hz1_1 : w.heap.size + 1 < w1.heap.size := lt_below hb1 ltg; have hl1_1 := Nat.le_of_lt hz1_1; have hA1 := bnext (w0 := w) bgo hb1; have hs1 := hA1.size; clear hb1)
    | (go_at_call 40; refine (c34 _).mono ?_; rintro x w2 ⟨rfl, hb2⟩; obtain ⟨hc2, hf2⟩ := bcell hb2; have hz2_0 : w.heap.size < w2.heap.size := lt_below hb2 ltg; have hl2_0 := Nat.le_of_lt hz2_0; have hz2_1 : w.heap.size + 1 < w2.heap.size := lt_below hb2 ltg; have hl2_1 := Nat.le_of_lt hz2_1; have hz2_2 : w1.heap.size < w2.heap.size := lt_below hb2 ltg; have hl2_2 := Nat.le_of_lt hz2_2; have hA2 := bnext (w0 := w) bgo hb2; have hs2 := hA2.size; clear hb2))
  have hsm := cell_set_map
  exact bodyPost_ret (v := .tuple #[A4 R, .int .i64 E]) (by simp only [results, Tryd.results27]; go_simp) rfl ⟨rfl, bgo⟩
set_option maxHeartbeats 1000000 in
theorem pack_0 (h1 : (c == 1) = false) (h2 : (c == 2) = false) (h3 : (c == 3) = false) :
    Calls Tryd.prog 27 #[.int .i64 n, DV c s g x k] w fun x w' => x = .returned (.tuple #[Z4, .int .i64 3]) ∧ Below w.heap.size w w' := by
  go_enter Tryd.func27, Tryd.ntmps27
  go_wp2_with (go_at_call 37; refine (c31 _ ((hT.alloc _).alloc _)).mono ?_; rintro x w1 ⟨rfl, hb1⟩; obtain ⟨hc1, hf1⟩ := bcell hb1; have hz1_0 : w.heap.size < w1.heap.size := lt_below hb1 ltg; have hl1_0 := Nat.le_of_lt hz1_0; have hz1_1 : w.heap.size + 1 < w1.heap.size := lt_below hb1 ltg; have hl1_1 := Nat.le_of_lt hz1_1; have hA1 := bnext (w0 := w) bgo hb1; have hs1 := hA1.size; clear hb1)
  have hsm := cell_set_map
  exact bodyPost_ret (v := .tuple #[Z4, .int .i64 3]) (by simp only [results, Tryd.results27]; go_simp) rfl ⟨rfl, bgo⟩
set_option maxHeartbeats 1000000 in
theorem largest_ok (hf : f ≤ 240) (P1 P0 Fr R : Nat) (cr sp : Int) (hsp : 1 ≤ sp ∧ sp ≤ 1000000)
    (c23 : ∀ w, Calls Tryd.prog 49 #[.int .i64 f] w fun x w' => x = .returned (A4 P1) ∧ Below w.heap.size w w')
    (c230 : ∀ w, Calls Tryd.prog 49 #[.int .i64 0] w fun x w' => x = .returned (A4 P0) ∧ Below w.heap.size w w')
    (c39 : ∀ w, Calls Tryd.prog 48 #[A4 P1, A4 P0] w fun x w' => x = .returned (.tuple #[A4 Fr, .int .u64 cr]) ∧ Below w.heap.size w w')
    (c20 : ∀ w, Calls Tryd.prog 51 #[LV f e l m] w fun x w' => x = .returned (.int .u64 sp) ∧ Below w.heap.size w w')
    (c40 : ∀ w, Calls Tryd.prog 50 #[LV f e l m, .bool s, .int .u64 (sp - 1), A4 Fr] w fun x w' => x = .returned (A4 R) ∧ Below w.heap.size w w') :
    Calls Tryd.prog 36 #[.int .i64 n, .bool s] w fun x w' => x = .returned (.tuple #[A4 R, .int .i64 0]) ∧ Below w.heap.size w w' := by
  go_enter Tryd.func36, Tryd.ntmps36
  go_wp2_with (first
    | (go_at_call 37; refine (c31 _ (hT.alloc _)).mono ?_; rintro x w1 ⟨rfl, hb1⟩; obtain ⟨hc1, hf1⟩ := bcell hb1; have hz1_0 : w.heap.size < w1.heap.size := lt_below hb1 ltg; have hl1_0 := Nat.le_of_lt hz1_0; have hA1 := bnext (w0 := w) bgo hb1; have hs1 := hA1.size; clear hb1)
    | (go_at_call 49; refine (c23 _).mono ?_; rintro x w2 ⟨rfl, hb2⟩; obtain ⟨hc2, hf2⟩ := bcell hb2; have hz2_0 : w.heap.size < w2.heap.size := lt_below hb2 ltg; have hl2_0 := Nat.le_of_lt hz2_0; have hz2_1 : w1.heap.size < w2.heap.size := lt_below hb2 ltg; have hl2_1 := Nat.le_of_lt hz2_1; have hA2 := bnext (w0 := w) bgo hb2; have hs2 := hA2.size; clear hb2)
    | (go_at_call 49; refine (c230 _).mono ?_; rintro x w3 ⟨rfl, hb3⟩; obtain ⟨hc3, hf3⟩ := bcell hb3; have hz3_0 : w.heap.size < w3.heap.size := lt_below hb3 ltg; have hl3_0 := Nat.le_of_lt hz3_0; have hz3_1 : w1.heap.size < w3.heap.size := lt_below hb3 ltg; have hl3_1 := Nat.le_of_lt hz3_1; have hA3 := bnext (w0 := w) bgo hb3; have hs3 := hA3.size; clear hb3)
    | (go_at_call 48; refine (c39 _).mono ?_; rintro x w4 ⟨rfl, hb4⟩; obtain ⟨hc4, hf4⟩ := bcell hb4; have hz4_0 : w.heap.size < w4.heap.size := lt_below hb4 ltg; have hl4_0 := Nat.le_of_lt hz4_0; have hz4_1 : w1.heap.size < w4.heap.size := lt_below hb4 ltg; have hl4_1 := Nat.le_of_lt hz4_1; have hA4 := bnext (w0 := w) bgo hb4; have hs4 := hA4.size; clear hb4))
  refine wp_tail 7 (by kernel_rfl) (by kernel_rfl) (by kernel_rfl) (fun _ _ d _ _ h => by cases d <;> exact h) fun hne hcell => ?_
  simp only [List.take_succ_cons, List.take_zero, List.drop_succ_cons, List.drop_zero]
  repeat go_big_quiet_step (fail)
  go_big_quiet_step ((go_at_call 51; exact calls_wd _ bk_next (c20 _)))
  repeat go_big_quiet_step (fail)
  go_big_quiet_step ((go_at_call 50; exact calls_wd _ bk_next (c40 _)))
  refine wpQuiet_nil fun w5 hb5 => ?_
  obtain ⟨hc5, hf5⟩ := bcell hb5; have hz5_0 : w.heap.size < w5.heap.size := lt_below hb5 ltg; have hl5_0 := Nat.le_of_lt hz5_0; have hz5_1 : w1.heap.size < w5.heap.size := lt_below hb5 ltg; have hl5_1 := Nat.le_of_lt hz5_1; have hz5_2 : w4.heap.size < w5.heap.size := lt_below hb5 ltg; have hl5_2 := Nat.le_of_lt hz5_2; have hA5 := bnext (w0 := w) bgo hb5; have hs5 := hA5.size; clear hb5
  have hsm := cell_set_map
  go_wp2
  exact bodyPost_ret (v := .tuple #[A4 R, .int .i64 0]) (by simp only [results, Tryd.results36]; go_simp) rfl ⟨rfl, bgo⟩
end
set_option maxHeartbeats 1000000 in
theorem largest_bad (n : Int) (s : Bool) (w : World) (hT : Tab w) (h : ¬ binN n) :
    Calls Tryd.prog 36 #[.int .i64 n, .bool s] w fun x w' => x = .returned (.tuple #[Z4, .int .i64 1]) ∧ Below w.heap.size w w' := by
  have c31 := fun w hT => layoutOf_bad n w hT h
  go_enter Tryd.func36, Tryd.ntmps36
  go_wp2_with (go_at_call 37; refine (c31 _ (hT.alloc _)).mono ?_; rintro x w1 ⟨rfl, hb1⟩; obtain ⟨hc1, hf1⟩ := bcell hb1; have hz1_0 : w.heap.size < w1.heap.size := lt_below hb1 ltg; have hl1_0 := Nat.le_of_lt hz1_0; have hA1 := bnext (w0 := w) bgo hb1; have hs1 := hA1.size; clear hb1)
  have hsm := cell_set_map
  exact bodyPost_ret (v := .tuple #[Z4, .int .i64 1]) (by simp only [results, Tryd.results36]; go_simp) rfl ⟨rfl, bgo⟩

/-- what Pack answers: the pattern, and the error's number -/
def pkV (n : Int) (d : Dat) : Nat := if binN n ∧ isD (fN n) (leastN n) (mostN n) d then pk (fN n) (eN n) (leastN n) d else 0
def pkE (n : Int) (d : Dat) : Int := if binN n then (if isD (fN n) (leastN n) (mostN n) d then 0 else 3) else 1
theorem pack_any (n : Int) (d : Dat) (w : World) (hT : Tab w) (hk : d.k < 2 ^ 256) :
    Calls Tryd.prog 27 #[.int .i64 n, d.v] w fun x w' => x = .returned (.tuple #[A4 (pkV n d), .int .i64 (pkE n d)]) ∧ Below w.heap.size w w' := by
  by_cases hb : binN n
  · have hF := bin_fm hb
    have c31 := fun w hT => layoutOf_ok n w hT hb
    have key : ∀ d : Dat, Value.tuple #[A4 (pkV n d), .int .i64 (pkE n d)] = if isD (fN n) (leastN n) (mostN n) d then .tuple #[A4 (pk (fN n) (eN n) (leastN n) d), .int .i64 0] else .tuple #[Z4, .int .i64 3] := fun d => by
      unfold pkV pkE
      by_cases hi : isD (fN n) (leastN n) (mostN n) d
      · rw [if_pos ⟨hb, hi⟩, if_pos hb, if_pos hi, if_pos hi]
      · rw [if_neg (fun h => hi h.2), if_pos hb, if_neg hi, if_neg hi, Z4_eq]
    obtain ⟨c, s, g, x, k⟩ := d
    unfold Dat.v
    dsimp only at hk ⊢
    by_cases h1 : c = 1
    · subst h1
      have c32 := fun w => packFinite_any (fN n) (eN n) (leastN n) (mostN n) w s g x k hF hk
      simp only [← key] at c32
      exact pack_1 n _ _ _ _ w hT x s g k c31 _ _ c32
    · by_cases h2 : c = 2
      · subst h2
        have c33 := fun w => packInfinite_any (fN n) (eN n) (leastN n) (mostN n) w s g x k hF hk
        simp only [← key] at c33
        exact pack_2 n _ _ _ _ w hT x s g k c31 _ _ c33
      · by_cases h3 : c = 3
        · subst h3
          have c34 := fun w => packNaN_any (fN n) (eN n) (leastN n) (mostN n) w s g x k hF hk
          simp only [← key] at c34
          exact pack_3 n _ _ _ _ w hT x s g k c31 _ _ c34
        · rw [key, if_neg (by unfold isD; simp [h1, h2, h3])]
          exact pack_0 n _ _ _ _ w hT c x s g k c31 (by simpa using h1) (by simpa using h2) (by simpa using h3)
  · have e1 : pkV n d = 0 := if_neg fun h => hb h.1
    have e2 : pkE n d = 1 := if_neg hb
    rw [e1, e2, Z4_eq]
    exact pack_bad n d w hT hb
def lgV (n : Int) (s : Bool) : Nat := if binN n then (2 ^ eN n - 2) * 2 ^ fN n + (2 ^ fN n - 1) + (if s then 2 ^ (fN n + eN n) else 0) else 0
def lgE (n : Int) : Int := if binN n then 0 else 1
theorem largest_any (n : Int) (s : Bool) (w : World) (hT : Tab w) :
    Calls Tryd.prog 36 #[.int .i64 n, .bool s] w fun x w' => x = .returned (.tuple #[A4 (lgV n s), .int .i64 (lgE n)]) ∧ Below w.heap.size w w' := by
  unfold lgV lgE
  by_cases hb : binN n
  · have hF := bin_fm hb
    rw [if_pos hb, if_pos hb]
    have hf := hF.f240
    have hp := pow_e hF.e2 hF.e15
    have hpc : ((2 : Int) ^ eN n) = ((2 ^ eN n : Nat) : Int) := by simp
    rw [hpc] at hp
    have hp1 : 1 ≤ 2 ^ fN n := Nat.one_le_two_pow
    have hp2 : 2 ^ fN n ≤ 2 ^ (fN n + 1) := Nat.pow_le_pow_right (by decide) (by omega)
    have h256 : 2 ^ fN n < 2 ^ 256 := Nat.pow_lt_pow_right (by decide) (by omega)
    have c39 := fun w => sub4 (2 ^ fN n) (2 ^ 0) w h256 (by decide)
    rw [A4_sub (show 2 ^ 0 ≤ 2 ^ fN n from hp1), if_neg (show ¬ 2 ^ fN n < 2 ^ 0 by omega)] at c39
    have c40 := fun w => join_any (fN n) (eN n) (leastN n) (mostN n) s (2 ^ eN n - 2) (2 ^ fN n - 1) w hF (by omega) (by omega)
    rw [show ((2 ^ eN n - 2 : Nat) : Int) = ((2 ^ eN n - 1 : Nat) : Int) - 1 by omega] at c40
    have c230 := fun w => power_any 0 w (by decide)
    exact largest_ok n _ _ _ _ w hT s (fun w hT => layoutOf_ok n w hT hb) hf _ _ _ _ _ _ (by omega) (fun w => power_any (fN n) w (by omega)) c230 c39 (fun w => special_any _ _ _ _ w hF) c40
  · rw [if_neg hb, if_neg hb, Z4_eq]
    exact largest_bad n s w hT hb

end Go.Proofs.YtpfnfaekgaipjaaDoor

namespace Go.Proofs.YtpfnfaekgaipjaaDoor
open Go.RowKit

set_option maxHeartbeats 400000 in
theorem rbinary_any (n : Int) (w : World) : Calls Tryd.prog 5 #[.int .i64 n] w fun e w' => e = .returned (.bool (decide (binN n))) ∧ w' = w := by
  by_cases h1 : 1 ≤ n
  · by_cases h2 : n ≤ 6
    · rw [decide_eq_true (show binN n from ⟨h1, h2⟩)]
      go_enter Tryd.func5, Tryd.ntmps5
      go_wp2
      go_ret
      exact ⟨rfl, rfl⟩
    · rw [decide_eq_false (show ¬ binN n from fun h => h2 h.2)]
      go_enter Tryd.func5, Tryd.ntmps5
      go_wp2
      go_ret
      exact ⟨rfl, rfl⟩
  · rw [decide_eq_false (show ¬ binN n from fun h => h1 h.1)]
    go_enter Tryd.func5, Tryd.ntmps5
    go_wp2
    go_ret
    exact ⟨rfl, rfl⟩
end Go.Proofs.YtpfnfaekgaipjaaDoor

namespace Go.Proofs.YtpfnfaekgaipjaaDoor
open Go.RowKit

theorem puts_slot (a : Act) : ∀ (D : List Nat) (b : Act), (D.foldl (fun b d => b.put (some d) (slot a d)) b).tmps.size = b.tmps.size ∧ (D.foldl (fun b d => b.put (some d) (slot a d)) b).defers = b.defers ∧ ∀ t, t < b.tmps.size → slot (D.foldl (fun b d => b.put (some d) (slot a d)) b) t = if t ∈ D then slot a t else slot b t
  | [], b => ⟨rfl, rfl, fun t ht => by simp⟩
  | d :: D, b => by
    obtain ⟨h1, h2, h3⟩ := puts_slot a D (b.put (some d) (slot a d))
    have hs : (b.put (some d) (slot a d)).tmps.size = b.tmps.size := by simp [Act.put]
    refine ⟨h1.trans hs, h2, fun t ht => ?_⟩
    rw [List.foldl_cons, h3 t (by rw [hs]; exact ht)]
    by_cases hD : t ∈ D
    · rw [if_pos hD, if_pos (List.mem_cons_of_mem _ hD)]
    · rw [if_neg hD]
      by_cases hd : t = d
      · subst hd
        rw [if_pos List.mem_cons_self, slot_put ht]
      · rw [if_neg (by simp [hd, hD]), slot_put_ne (fun h => hd h.symm)]
theorem act_of {a a0 : Act} (D : List Nat) (n : Nat) (hn : D.length = n) (hsz : a.tmps.size = a0.tmps.size) (hdf : a.defers = a0.defers) (hF : ∀ t, (∀ i, i < n → D.getD i 0 ≠ t) → slot a t = slot a0 t) :
    a = D.foldl (fun b d => b.put (some d) (slot a d)) a0 := by
  obtain ⟨h1, h2, h3⟩ := puts_slot a D a0
  generalize D.foldl (fun b d => b.put (some d) (slot a d)) a0 = b at *
  have key : ∀ t, t < a0.tmps.size → slot a t = slot b t := fun t ht => by
    rw [h3 t ht]
    by_cases hD : t ∈ D
    · rw [if_pos hD]
    · rw [if_neg hD]
      refine hF t fun i hi e => hD ?_
      rw [← e, List.getD_eq_getElem?_getD, List.getElem?_eq_getElem (by omega)]
      exact List.getElem_mem _
  have ht : a.tmps = b.tmps := by
    apply Array.ext (by omega)
    intro i h4 h5
    have := key i (by omega)
    unfold slot at this
    rw [Array.getElem?_eq_getElem h4, Array.getElem?_eq_getElem h5] at this
    exact this
  cases a; cases b
  simp only at ht hdf h2 ⊢
  rw [ht, hdf, h2]

attribute [local irreducible] W4 NT NV
end Go.Proofs.YtpfnfaekgaipjaaDoor

namespace Go.Proofs.YtpfnfaekgaipjaaDoor
open Go.RowKit

abbrev iW (v : Value) : Value → World → Prop := fun x _ => x = v
section
variable {P : Program} {a : Act} {w : World} {K : Act → World → Prop} {Q : Exit → Act → World → Prop} {d p q : Nat} {ty : TypeId} {pos : String} {after : Array Edge} {gd : Option (Nat × Bool)}
theorem og_mv {v : Value} (h1 : slot a p = v) (hK : K (a.put (some d) v) w) : Oper.wp P { dst := some d, op := Op.move (Operand.tmp p), type := ty, pos := pos, after := after, guard := gd } a w K Q := by
  unfold slot at h1
  simp [go_sem, h1]
  exact hK
theorem og_as {v : Value} (h1 : slot a p = v) (hK : K (a.put (some d) v) w) : Oper.wp P { dst := some d, op := Op.assign (Operand.tmp p), type := ty, pos := pos, after := after, guard := gd } a w K Q := by
  unfold slot at h1
  simp [go_sem, h1]
  exact hK
theorem eqB_run {X Y : Nat} (hX : X < 2 ^ 256) (hY : Y < 2 ^ 256) (w : World) : Sem.run Tryd.prog (Op.equalIn 10000 28 (A4 X) (A4 Y)) w = .ok (decide (X = Y)) w := by
  have := eq24 (W4 X 0) (W4 X 1) (W4 X 2) (W4 X 3) (W4 Y 0) (W4 Y 1) (W4 Y 2) (W4 Y 3) w
  rw [show decide (W4 X 0 = W4 Y 0 ∧ W4 X 1 = W4 Y 1 ∧ W4 X 2 = W4 Y 2 ∧ W4 X 3 = W4 Y 3) = decide (X = Y) from ?_] at this
  · exact this
  · by_cases h : X = Y
    · subst h
      rw [decide_eq_true ⟨rfl, rfl, rfl, rfl⟩, decide_eq_true rfl]
    · rw [decide_eq_false h, decide_eq_false]
      rintro ⟨h0, h1, h2, h3⟩
      refine h (A4_inj hX hY fun i hi => ?_)
      have : i = 0 ∨ i = 1 ∨ i = 2 ∨ i = 3 := by omega
      rcases this with rfl | rfl | rfl | rfl
      · exact h0
      · exact h1
      · exact h2
      · exact h3
theorem og_eqB {X Y : Nat} {b : Bool} (hX : X < 2 ^ 256) (hY : Y < 2 ^ 256) (hb : decide (X = Y) = b) (h1 : slot a p = A4 X) (h2 : slot a q = A4 Y) (hK : K (a.put (some d) (.bool b)) w) : Oper.wp Tryd.prog { dst := some d, op := Op.binOp BinOp.eql 28 (Operand.tmp p) (Operand.tmp q) 28, type := ty, pos := pos, after := after, guard := gd } a w K Q := by
  have e := eqB_run hX hY w
  rw [hb] at e
  unfold slot at h1 h2
  unfold A4 at h1 h2 e
  simp [go_sem, h1, h2, e]
  exact hK
theorem og_ldB {g i X : Nat} (h1 : slot a p = .pointer (some ⟨g, i, none⟩)) (c0 : w.cell? ⟨g, i, none⟩ = some (.int .u64 (W4 X 0))) (c1 : w.cell? ⟨g, i + 1, none⟩ = some (.int .u64 (W4 X 1))) (c2 : w.cell? ⟨g, i + 2, none⟩ = some (.int .u64 (W4 X 2))) (c3 : w.cell? ⟨g, i + 3, none⟩ = some (.int .u64 (W4 X 3))) (hK : K (a.put (some d) (A4 X)) w) : Oper.wp Tryd.prog { dst := some d, op := Op.load 28 (Operand.tmp p), type := ty, pos := pos, after := after, guard := gd } a w K Q := by
  unfold slot at h1
  simp [go_sem, h1, c0, c1, c2, c3]
  exact hK
theorem og_slB {g : Nat} (h1 : slot a p = .pointer (some ⟨g, 0, none⟩)) (hK : K (a.put (some d) (.slice (some ⟨g, 0, none⟩) 4 4)) w) : Oper.wp Tryd.prog { dst := some d, op := Op.slice 28 (Operand.tmp p) none none none, type := ty, pos := pos, after := after, guard := gd } a w K Q := by
  unfold slot at h1
  simp [go_sem, h1]
  exact hK
theorem og_pkT {o2 : Operand} {v : Value} (h1 : slot a p = .bool true) (h2 : slot a q = v) (hK : K (a.put (some d) v) w) : Oper.wp P { dst := some d, op := Op.pick (Operand.tmp p) (Operand.tmp q) o2, type := ty, pos := pos, after := after, guard := gd } a w K Q := by
  unfold slot at h1 h2
  simp [go_sem, h1, h2]
  exact hK
theorem og_pkF {o1 : Operand} {v : Value} (h1 : slot a p = .bool false) (h2 : slot a q = v) (hK : K (a.put (some d) v) w) : Oper.wp P { dst := some d, op := Op.pick (Operand.tmp p) o1 (Operand.tmp q), type := ty, pos := pos, after := after, guard := gd } a w K Q := by
  unfold slot at h1 h2
  simp [go_sem, h1, h2]
  exact hK
theorem og_pkTc {o2 : Operand} {v : Value} (h1 : slot a p = .bool true) (hK : K (a.put (some d) v) w) : Oper.wp P { dst := some d, op := Op.pick (Operand.tmp p) (Operand.const v) o2, type := ty, pos := pos, after := after, guard := gd } a w K Q := by
  unfold slot at h1
  simp [go_sem, h1]
  exact hK
theorem og_gt3 {x c : Int} {b : Bool} (h1 : slot a p = .int .i64 x) (hb : decide (c < x) = b) (hK : K (a.put (some d) (.bool b)) w) : Oper.wp Tryd.prog { dst := some d, op := Op.binOp BinOp.gtr 3 (Operand.tmp p) (Operand.const (.int .i64 c)) 3, type := ty, pos := pos, after := after, guard := gd } a w K Q := by
  unfold slot at h1
  simp [go_sem, h1, hb]
  exact hK
end
end Go.Proofs.YtpfnfaekgaipjaaDoor

namespace Go.Proofs.YtpfnfaekgaipjaaDoor
open Go.RowKit

theorem bnx {w0 W W' : World} (h : Below w0.heap.size w0 W) (hb : Below W.heap.size W W') : Below w0.heap.size w0 W' := h.trans (hb.mono h.size)
/-- how many bits a number has -/
def bl (V : Nat) : Nat := if V = 0 then 0 else Nat.log2 V + 1
theorem bl_le {V k : Nat} : bl V ≤ k ↔ V < 2 ^ k := by
  unfold bl
  by_cases h : V = 0
  · subst h; simp; exact Nat.two_pow_pos k
  · rw [if_neg h]
    have := Nat.log2_lt h (k := k)
    omega
theorem bl_ge {V k : Nat} : k < bl V ↔ 2 ^ k ≤ V := by
  have := bl_le (V := V) (k := k)
  omega
theorem bl_zero {V : Nat} : bl V = 0 ↔ V = 0 := by
  unfold bl; by_cases h : V = 0 <;> simp [h]
theorem bl_eq {V L : Nat} (h1 : 2 ^ (L - 1) ≤ V) (h2 : V < 2 ^ L) : bl V = L := by
  have a := bl_le.2 h2
  by_cases h : L = 0
  · omega
  · have b := bl_ge.2 h1
    omega
/-- a number in a list of words, at most K of them -/
def Nt (K V : Nat) (v : Value) (w : World) : Prop := ∃ a k cap z, v = .slice a k cap ∧ k ≤ K ∧ Num w a k cap z ∧ val z k = (V : Int)
theorem Nt.next {K V : Nat} {v : Value} {w w' : World} (h : Nt K V v w) (hb : Below w.heap.size w w') : Nt K V v w' := by
  obtain ⟨a, k, cap, z, h1, h2, h3, h4⟩ := h
  exact ⟨a, k, cap, z, h1, h2, h3.next hb, h4⟩
theorem Nt.more {K K' V : Nat} {v : Value} {w : World} (h : Nt K V v w) (hk : K ≤ K') : Nt K' V v w := by
  obtain ⟨a, k, cap, z, h1, h2, h3, h4⟩ := h
  exact ⟨a, k, cap, z, h1, by omega, h3, h4⟩
/-- without noughts at its end -/
def Nz (K V : Nat) (v : Value) (w : World) : Prop := ∃ a k cap z, v = .slice a k cap ∧ k ≤ K ∧ Num w a k cap z ∧ val z k = (V : Int) ∧ sizeL z k = k
theorem Nz.next {K V : Nat} {v : Value} {w w' : World} (h : Nz K V v w) (hb : Below w.heap.size w w') : Nz K V v w' := by
  obtain ⟨a, k, cap, z, h1, h2, h3, h4, h5⟩ := h
  exact ⟨a, k, cap, z, h1, h2, h3.next hb, h4, h5⟩
theorem Nz.nt {K V : Nat} {v : Value} {w : World} (h : Nz K V v w) : Nt K V v w := by
  obtain ⟨a, k, cap, z, h1, h2, h3, h4, h5⟩ := h
  exact ⟨a, k, cap, z, h1, h2, h3, h4⟩
theorem size_zero {z : Nat → Int} {k V : Nat} (hz : Words z) (hv : val z k = (V : Int)) : sizeL z k = 0 ↔ V = 0 := by
  constructor
  · intro h
    have := val_bare (x := z) k
    rw [h] at this
    have h0 : val z 0 = 0 := rfl
    omega
  · intro h
    subst h
    rcases Nat.eq_zero_or_pos (sizeL z k) with h | h
    · exact h
    · exfalso
      have := val_longer (x := z) (y := z) hz hz (n := 0) (m := sizeL z k) h (sizeL_sizeL z k)
      rw [val_bare] at this
      have h0 : val z 0 = 0 := rfl
      omega
theorem len_bl {z : Nat → Int} {k V : Nat} (hz : Words z) (hv : val z k = (V : Int)) : lenL z k = (bl V : Int) := by
  rcases Nat.eq_zero_or_pos (sizeL z k) with h | h
  · have h0 := (size_zero hz hv).1 h
    unfold lenL; rw [if_pos h, h0]; rfl
  · obtain ⟨L, h1, h2, h3⟩ := len_bd hz h
    rw [hv] at h2 h3
    have e : bl V = L + 1 := by
      have e1 : ((2 : Int) ^ L) = ((2 ^ L : Nat) : Int) := by simp
      have e2 : ((2 : Int) ^ (L + 1)) = ((2 ^ (L + 1) : Nat) : Int) := by simp
      rw [e1] at h2
      rw [e2] at h3
      exact bl_eq (by rw [Nat.add_sub_cancel]; omega) (by omega)
    rw [e, h1]; omega
/-- how many words -/
theorem size_bl {z : Nat → Int} {k V m : Nat} (hz : Words z) (hv : val z k = (V : Int)) : sizeL z k ≤ m ↔ bl V ≤ 64 * m := by
  have hl := len_bl hz hv
  unfold lenL at hl
  rcases Nat.eq_zero_or_pos (sizeL z k) with h | h
  · rw [if_pos h] at hl; omega
  · rw [if_neg (by omega)] at hl
    have ht := sizeL_top k h
    have hw := hz (sizeL z k - 1)
    have hb := bitLen_spec (z (sizeL z k - 1)).toNat (by omega) (by omega)
    omega
theorem nlen_v {K V : Nat} {v : Value} {w : World} (hK : K < 100000000) (h : Nt K V v w) :
    Calls Tryd.prog 12 #[v] w fun e w' => e = .returned (.int .i64 (bl V : Int)) ∧ w = w' := by
  obtain ⟨a, k, cap, z, rfl, hk, hN, hv⟩ := h
  refine (nlen_any a k cap z w (by omega) hN).mono fun e w' ⟨h1, h2⟩ => ⟨?_, h2⟩
  rw [h1, len_bl hN.2.2.1 hv]
theorem nshl_v {K V : Nat} {v : Value} {w : World} (d : Nat) (hK : K < 100000000) (h : Nt K V v w) (hd : bl V + d ≤ 127000) :
    Calls Tryd.prog 41 #[v, .int .i64 (d : Int)] w fun e w' => ∃ r, e = .returned (.tuple #[r, .int .i64 0]) ∧ Nz 2001 (V * 2 ^ d) r w' ∧ Below w.heap.size w w' := by
  obtain ⟨a, k, cap, z, rfl, hk, hN, hv⟩ := h
  have hs := (size_bl (m := (bl V + 63) / 64) hN.2.2.1 hv).2 (by omega)
  refine (nshl_any a k cap z d w (by omega) hN (by omega) (by omega)).mono fun e w' ⟨g, k', cap', z', h1, h2, h3, h4, h5, h6⟩ => ⟨_, h1, ⟨_, k', cap', z', rfl, h2, h3, ?_, h5⟩, h6⟩
  rw [h4, hv]; simp
theorem ncmp_v {K K' V V' : Nat} {v v' : Value} {w : World} (hK : K < 100000000) (hK' : K' < 100000000) (h : Nt K V v w) (h' : Nt K' V' v' w) :
    Calls Tryd.prog 29 #[v, v'] w fun e w' => e = .returned (.int .i64 (sgn (V : Int) (V' : Int))) ∧ Below w.heap.size w w' := by
  obtain ⟨a, k, cap, z, rfl, hk, hN, hv⟩ := h
  obtain ⟨a', k', cap', z', rfl, hk', hN', hv'⟩ := h'
  have := ncmp_b a a' k cap k' cap' z z' w (by omega) (by omega) hN hN'
  rw [hv, hv'] at this
  exact this
theorem nadd_v {K K' V V' : Nat} {v v' : Value} {w : World} (hK : K < 100000000) (hK' : K' < 100000000) (h : Nt K V v w) (h' : Nt K' V' v' w) :
    Calls Tryd.prog 32 #[v, v'] w fun e w' => ∃ r, e = .returned r ∧ Nz (K + K' + 1) (V + V') r w' ∧ Below w.heap.size w w' := by
  obtain ⟨a, k, cap, z, rfl, hk, hN, hv⟩ := h
  obtain ⟨a', k', cap', z', rfl, hk', hN', hv'⟩ := h'
  have s1 := sizeL_le z k
  have s2 := sizeL_le z' k'
  refine (nadd_any a a' k cap k' cap' z z' w (by omega) (by omega) hN hN').mono fun e w' ⟨g, k2, cap2, z2, h1, h2, h3, h4, h5, h6⟩ => ⟨_, h1, ⟨_, k2, cap2, z2, rfl, by omega, h3, ?_, h5⟩, h6⟩
  rw [h4, hv, hv']; omega
theorem ndiv_v {K K' V V' : Nat} {v v' : Value} {w : World} (hK : K < 100000000) (hK' : K' < 100000000) (h : Nt K V v w) (h' : Nt K' V' v' w) (hb : bl V ≤ 128000) (hb' : bl V' ≤ 128000) (h0 : V' ≠ 0) :
    Calls Tryd.prog 30 #[v, v'] w fun e w' => ∃ q r, e = .returned (.tuple #[q, r, .int .i64 0]) ∧ Nz 2001 (V / V') q w' ∧ Nz 2001 (V % V') r w' ∧ Below w.heap.size w w' := by
  obtain ⟨a, k, cap, z, rfl, hk, hN, hv⟩ := h
  obtain ⟨a', k', cap', z', rfl, hk', hN', hv'⟩ := h'
  have s1 := (size_bl (m := 2000) hN.2.2.1 hv).2 (by omega)
  have s2 := (size_bl (m := 2000) hN'.2.2.1 hv').2 (by omega)
  have s3 : 0 < sizeL z' k' := Nat.pos_of_ne_zero fun e => h0 ((size_zero hN'.2.2.1 hv').1 e)
  refine (ndiv_any a a' k cap k' cap' z z' w (by omega) (by omega) hN hN' s1 s2 s3).mono fun e w' ⟨o, k2, cap2, z2, o', k3, cap3, z3, h1, h2, h3, h4, h5, h6, h7, h8, h9, h10⟩ => ⟨_, _, h1, ⟨_, _, _, _, rfl, h2, h4, ?_, h8⟩, ⟨_, _, _, _, rfl, h3, h5, ?_, h9⟩, h10⟩
  · rw [h6, hv, hv']; simp
  · rw [h7, hv, hv']; simp
theorem nshr_v {K V : Nat} {v : Value} {w : World} (hK : K < 100000000) (h : Nt K V v w) :
    Calls Tryd.prog 17 #[v, .int .i64 1] w fun e w' => ∃ r b, e = .returned (.tuple #[r, .bool b]) ∧ Nz K (V / 2) r w' ∧ Below w.heap.size w w' := by
  obtain ⟨a, k, cap, z, rfl, hk, hN, hv⟩ := h
  refine (nshr_all a k cap z 1 w (by omega) hN (by decide)).mono fun e w' ⟨o, k2, cap2, h1, h2, h3, h4, h5⟩ => ⟨_, _, h1, ⟨_, _, _, _, rfl, by omega, h3, ?_, h4⟩, h5⟩
  have hz := h3.2.2.2.1
  have e1 : shrF z 1 = shrW z 0 1 := by unfold shrF; rw [if_neg (by decide)]; rfl
  rw [← val_more hz k h2, e1]
  exact shrW_val hN.2.2.1 hN.2.2.2.1 (by decide) k (Nat.le_refl _) hv
end Go.Proofs.YtpfnfaekgaipjaaDoor

namespace Go.Proofs.YtpfnfaekgaipjaaDoor
open Go.RowKit

def knB (d : Int) : Prop := 0 ≤ d ∧ d ≤ 4
instance (d : Int) : Decidable (knB d) := inferInstanceAs (Decidable (_ ∧ _))
theorem known_any (d : Int) (w : World) : Calls Tryd.prog 24 #[.int .i64 d] w fun e w' => e = .returned (.bool (decide (knB d))) ∧ w = w' := by
  by_cases h1 : 0 ≤ d
  · by_cases h2 : d ≤ 4
    · rw [decide_eq_true (show knB d from ⟨h1, h2⟩)]
      go_enter Tryd.func24, Tryd.ntmps24
      go_wp2
      go_ret
      exact ⟨rfl, rfl⟩
    · rw [decide_eq_false (show ¬ knB d from fun h => h2 h.2)]
      go_enter Tryd.func24, Tryd.ntmps24
      go_wp2
      go_ret
      exact ⟨rfl, rfl⟩
  · rw [decide_eq_false (show ¬ knB d from fun h => h1 h.1)]
    go_enter Tryd.func24, Tryd.ntmps24
    go_wp2
    go_ret
    exact ⟨rfl, rfl⟩
/-- does what overflows become infinite -/
def inB (d : Int) (s : Bool) : Bool := if d = 0 ∨ d = 1 then true else if d = 3 then !s else if d = 4 then s else false
set_option maxHeartbeats 400000 in
theorem infinite_any (d : Int) (s : Bool) (w : World) : Calls Tryd.prog 35 #[.int .i64 d, .bool s] w fun e w' => e = .returned (.bool (inB d s)) ∧ w = w' := by
  by_cases h0 : d = 0
  · subst h0
    go_enter Tryd.func35, Tryd.ntmps35
    go_wp2
    go_ret
    exact ⟨rfl, rfl⟩
  · by_cases h1 : d = 1
    · subst h1
      go_enter Tryd.func35, Tryd.ntmps35
      go_wp2
      go_ret
      exact ⟨rfl, rfl⟩
    · by_cases h3 : d = 3
      · subst h3
        go_enter Tryd.func35, Tryd.ntmps35
        go_wp2
        go_ret
        exact ⟨rfl, rfl⟩
      · by_cases h4 : d = 4
        · subst h4
          go_enter Tryd.func35, Tryd.ntmps35
          go_wp2
          go_ret
          exact ⟨rfl, rfl⟩
        · have e : inB d s = false := by unfold inB; simp [h0, h1, h3, h4]
          have b0 : (d == 0) = false := by simpa using h0
          have b1 : (d == 1) = false := by simpa using h1
          have b3 : (d == 3) = false := by simpa using h3
          have b4 : (d == 4) = false := by simpa using h4
          rw [e]
          go_enter Tryd.func35, Tryd.ntmps35
          go_wp2
          go_ret
          exact ⟨rfl, rfl⟩
/-- is the neighbour farther from nought taken -/
def faB (d : Int) (s odd : Bool) (R D : Nat) : Bool := if R = 0 then false else if d = 0 then decide (D < R + R) || (decide (R + R = D) && odd) else if d = 1 then decide (D ≤ R + R) else inB d s
theorem sgn_ways (a b : Int) : (a < b ∧ sgn a b = -1) ∨ (a = b ∧ sgn a b = 0) ∨ (b < a ∧ sgn a b = 1) := by
  unfold sgn
  by_cases h : a < b
  · exact Or.inl ⟨h, if_pos h⟩
  · by_cases h' : b < a
    · exact Or.inr (Or.inr ⟨h', by rw [if_neg h, if_pos h']⟩)
    · exact Or.inr (Or.inl ⟨by omega, by rw [if_neg h, if_neg h']⟩)
section
variable (d : Int) (s odd : Bool) (R D : Nat) (vr vd : Value) (w : World)
  (c26 : ∀ W, Below w.heap.size w W → Calls Tryd.prog 12 #[vr] W fun e w' => e = .returned (.int .i64 (bl R : Int)) ∧ W = w')
include c26
set_option maxHeartbeats 400000 in
theorem far_zero (h : R = 0) : Calls Tryd.prog 31 #[.int .i64 d, .bool s, .bool odd, vr, vd] w fun e w' => e = .returned (.bool false) ∧ Below w.heap.size w w' := by
  have hb : (((bl R : Nat) : Int) == 0) = true := by rw [h]; decide
  go_enter Tryd.func31, Tryd.ntmps31
  go_wp2_with (go_at_call 12; refine (c26 _ bgo).mono ?_; rintro e w1 ⟨rfl, rfl⟩)
  go_ret
  exact ⟨rfl, bgo⟩
variable (hv : Int) (hR : (((bl R : Nat) : Int) == 0) = false)
  (c61 : ∀ W, Below w.heap.size w W → Calls Tryd.prog 32 #[vr, vr] W fun e w' => ∃ r, e = .returned r ∧ (∀ W', Below w'.heap.size w' W' → Calls Tryd.prog 29 #[r, vd] W' fun e w'' => e = .returned (.int .i64 hv) ∧ Below W'.heap.size W' w'') ∧ Below W.heap.size W w')
include hR c61
set_option maxHeartbeats 400000 in
theorem far_0g (h : 0 < hv) : Calls Tryd.prog 31 #[.int .i64 0, .bool s, .bool odd, vr, vd] w fun e w' => e = .returned (.bool true) ∧ Below w.heap.size w w' := by
  go_enter Tryd.func31, Tryd.ntmps31
  go_wp2_with (first
    | (go_at_call 12; refine (c26 _ bgo).mono ?_; rintro e w1 ⟨rfl, rfl⟩)
    | (go_at_call 32; refine (c61 _ bgo).mono ?_; rintro e w2 ⟨v2, rfl, c58, hb2⟩; have hA2 := bnx (w0 := w) bgo hb2)
    | (go_at_call 29; refine (c58 _ (Below.refl _ _)).mono ?_; rintro e w3 ⟨rfl, hb3⟩; have hA3 := bnx (w0 := w) hA2 hb3)
    | (go_at_call 35; refine (infinite_any _ _ _).mono ?_; rintro e w4 ⟨rfl, rfl⟩))
  go_ret
  exact ⟨by first | rfl | (simp; omega), bgo⟩
set_option maxHeartbeats 400000 in
theorem far_0e (h : hv = 0) : Calls Tryd.prog 31 #[.int .i64 0, .bool s, .bool odd, vr, vd] w fun e w' => e = .returned (.bool odd) ∧ Below w.heap.size w w' := by
  subst h
  go_enter Tryd.func31, Tryd.ntmps31
  go_wp2_with (first
    | (go_at_call 12; refine (c26 _ bgo).mono ?_; rintro e w1 ⟨rfl, rfl⟩)
    | (go_at_call 32; refine (c61 _ bgo).mono ?_; rintro e w2 ⟨v2, rfl, c58, hb2⟩; have hA2 := bnx (w0 := w) bgo hb2)
    | (go_at_call 29; refine (c58 _ (Below.refl _ _)).mono ?_; rintro e w3 ⟨rfl, hb3⟩; have hA3 := bnx (w0 := w) hA2 hb3)
    | (go_at_call 35; refine (infinite_any _ _ _).mono ?_; rintro e w4 ⟨rfl, rfl⟩))
  go_ret
  exact ⟨by first | rfl | (simp; omega), bgo⟩
set_option maxHeartbeats 400000 in
theorem far_0l (h : ¬ 0 < hv) (h1 : (hv == 0) = false) : Calls Tryd.prog 31 #[.int .i64 0, .bool s, .bool odd, vr, vd] w fun e w' => e = .returned (.bool false) ∧ Below w.heap.size w w' := by
  go_enter Tryd.func31, Tryd.ntmps31
  go_wp2_with (first
    | (go_at_call 12; refine (c26 _ bgo).mono ?_; rintro e w1 ⟨rfl, rfl⟩)
    | (go_at_call 32; refine (c61 _ bgo).mono ?_; rintro e w2 ⟨v2, rfl, c58, hb2⟩; have hA2 := bnx (w0 := w) bgo hb2)
    | (go_at_call 29; refine (c58 _ (Below.refl _ _)).mono ?_; rintro e w3 ⟨rfl, hb3⟩; have hA3 := bnx (w0 := w) hA2 hb3)
    | (go_at_call 35; refine (infinite_any _ _ _).mono ?_; rintro e w4 ⟨rfl, rfl⟩))
  go_ret
  exact ⟨by first | rfl | (simp; omega), bgo⟩
set_option maxHeartbeats 400000 in
theorem far_1g (h : 0 ≤ hv) : Calls Tryd.prog 31 #[.int .i64 1, .bool s, .bool odd, vr, vd] w fun e w' => e = .returned (.bool true) ∧ Below w.heap.size w w' := by
  go_enter Tryd.func31, Tryd.ntmps31
  go_wp2_with (first
    | (go_at_call 12; refine (c26 _ bgo).mono ?_; rintro e w1 ⟨rfl, rfl⟩)
    | (go_at_call 32; refine (c61 _ bgo).mono ?_; rintro e w2 ⟨v2, rfl, c58, hb2⟩; have hA2 := bnx (w0 := w) bgo hb2)
    | (go_at_call 29; refine (c58 _ (Below.refl _ _)).mono ?_; rintro e w3 ⟨rfl, hb3⟩; have hA3 := bnx (w0 := w) hA2 hb3)
    | (go_at_call 35; refine (infinite_any _ _ _).mono ?_; rintro e w4 ⟨rfl, rfl⟩))
  go_ret
  exact ⟨by first | rfl | (simp; omega), bgo⟩
set_option maxHeartbeats 400000 in
theorem far_1l (h : ¬ 0 ≤ hv) : Calls Tryd.prog 31 #[.int .i64 1, .bool s, .bool odd, vr, vd] w fun e w' => e = .returned (.bool false) ∧ Below w.heap.size w w' := by
  go_enter Tryd.func31, Tryd.ntmps31
  go_wp2_with (first
    | (go_at_call 12; refine (c26 _ bgo).mono ?_; rintro e w1 ⟨rfl, rfl⟩)
    | (go_at_call 32; refine (c61 _ bgo).mono ?_; rintro e w2 ⟨v2, rfl, c58, hb2⟩; have hA2 := bnx (w0 := w) bgo hb2)
    | (go_at_call 29; refine (c58 _ (Below.refl _ _)).mono ?_; rintro e w3 ⟨rfl, hb3⟩; have hA3 := bnx (w0 := w) hA2 hb3)
    | (go_at_call 35; refine (infinite_any _ _ _).mono ?_; rintro e w4 ⟨rfl, rfl⟩))
  go_ret
  exact ⟨by first | rfl | (simp; omega), bgo⟩
set_option maxHeartbeats 400000 in
theorem far_d (h0 : (d == 0) = false) (h1 : (d == 1) = false) : Calls Tryd.prog 31 #[.int .i64 d, .bool s, .bool odd, vr, vd] w fun e w' => e = .returned (.bool (inB d s)) ∧ Below w.heap.size w w' := by
  go_enter Tryd.func31, Tryd.ntmps31
  go_wp2_with (first
    | (go_at_call 12; refine (c26 _ bgo).mono ?_; rintro e w1 ⟨rfl, rfl⟩)
    | (go_at_call 32; refine (c61 _ bgo).mono ?_; rintro e w2 ⟨v2, rfl, c58, hb2⟩; have hA2 := bnx (w0 := w) bgo hb2)
    | (go_at_call 29; refine (c58 _ (Below.refl _ _)).mono ?_; rintro e w3 ⟨rfl, hb3⟩; have hA3 := bnx (w0 := w) hA2 hb3)
    | (go_at_call 35; refine (infinite_any _ _ _).mono ?_; rintro e w4 ⟨rfl, rfl⟩))
  go_ret
  exact ⟨by first | rfl | (simp; omega), bgo⟩
end
theorem farther_v (d : Int) (s odd : Bool) {K K' R D : Nat} {vr vd : Value} {w : World} (hK : K < 1000000) (hK' : K' < 1000000) (h : Nt K R vr w) (h' : Nt K' D vd w) :
    Calls Tryd.prog 31 #[.int .i64 d, .bool s, .bool odd, vr, vd] w fun e w' => e = .returned (.bool (faB d s odd R D)) ∧ Below w.heap.size w w' := by
  have c26 := fun W (hb : Below w.heap.size w W) => nlen_v (by omega) (h.next hb)
  unfold faB
  by_cases hz : R = 0
  · rw [if_pos hz]; exact far_zero d s odd R vr vd w c26 hz
  · rw [if_neg hz]
    have hR : (((bl R : Nat) : Int) == 0) = false := by
      have : bl R ≠ 0 := fun e => hz (bl_zero.1 e)
      rw [beq_eq_false_iff_ne]; omega
    have c61 : ∀ W, Below w.heap.size w W → Calls Tryd.prog 32 #[vr, vr] W fun e w' => ∃ r, e = .returned r ∧ (∀ W', Below w'.heap.size w' W' → Calls Tryd.prog 29 #[r, vd] W' fun e w'' => e = .returned (.int .i64 (sgn ((R + R : Nat) : Int) (D : Int))) ∧ Below W'.heap.size W' w'') ∧ Below W.heap.size W w' := fun W hb =>
      (nadd_v (by omega) (by omega) (h.next hb) (h.next hb)).mono fun e w' ⟨r, h1, h2, h3⟩ => ⟨r, h1, fun W' hb' => ncmp_v (by omega) (by omega) (h2.nt.next hb') (h'.next (bnx (bnx hb h3) hb')), h3⟩
    by_cases h0 : d = 0
    · subst h0
      rw [if_pos rfl]
      rcases sgn_ways ((R + R : Nat) : Int) (D : Int) with ⟨a, e⟩ | ⟨a, e⟩ | ⟨a, e⟩
      · rw [e] at c61
        rw [decide_eq_false (show ¬ D < R + R by omega), decide_eq_false (show ¬ R + R = D by omega)]
        exact far_0l s odd R vr vd w c26 (-1) hR c61 (by decide) (by decide)
      · rw [e] at c61
        rw [decide_eq_false (show ¬ D < R + R by omega), decide_eq_true (show R + R = D by omega), Bool.false_or, Bool.true_and]
        exact far_0e s odd R vr vd w c26 0 hR c61 rfl
      · rw [e] at c61
        rw [decide_eq_true (show D < R + R by omega), Bool.true_or]
        exact far_0g s odd R vr vd w c26 1 hR c61 (by decide)
    · rw [if_neg h0]
      by_cases h1 : d = 1
      · subst h1
        rw [if_pos rfl]
        rcases sgn_ways ((R + R : Nat) : Int) (D : Int) with ⟨a, e⟩ | ⟨a, e⟩ | ⟨a, e⟩
        · rw [e] at c61
          rw [decide_eq_false (show ¬ D ≤ R + R by omega)]
          exact far_1l s odd R vr vd w c26 (-1) hR c61 (by decide)
        · rw [e] at c61
          rw [decide_eq_true (show D ≤ R + R by omega)]
          exact far_1g s odd R vr vd w c26 0 hR c61 (by decide)
        · rw [e] at c61
          rw [decide_eq_true (show D ≤ R + R by omega)]
          exact far_1g s odd R vr vd w c26 1 hR c61 (by decide)
      · rw [if_neg h1]
        exact far_d d s odd R vr vd w c26 _ hR c61 (by simpa using h0) (by simpa using h1)
theorem raised_any (x s : Bool) (w : World) : Calls Tryd.prog 19 #[.bool x, .bool s] w fun e w' => e = .returned (.int .i64 (if x then 0 else if s then 12 else 8)) ∧ w = w' := by
  cases x <;> cases s
  all_goals (
    go_enter Tryd.func19, Tryd.ntmps19
    go_wp2
    go_ret
    exact ⟨rfl, rfl⟩)
end Go.Proofs.YtpfnfaekgaipjaaDoor
