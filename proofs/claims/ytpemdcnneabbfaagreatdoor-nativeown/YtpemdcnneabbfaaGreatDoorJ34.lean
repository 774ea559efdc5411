/-
  Texts that the proof leans on.
-/
import Derived.Test.YtpemdcnneabbfaaGreatDoorJ32
import Derived.Test.YtpemdcnneabbfaaGreatDoorJ3
import Derived.Test.YtpemdcnneabbfaaGreatDoorJ31
import Derived.Laws.IdiomCopy
import Derived.Test.YtpemdcnneabbfaaGreatDoorJ33
import Derived.Deep.RegionWith
import Derived.Test.YtpemdcnneabbfaaGreatDoorJ24
import Derived.Test.YtpemdcnneabbfaaGreatDoorJ30
import Derived.Test.YtpemdcnneabbfaaGreatDoorJ22
import Derived.Test.YtpemdcnneabbfaaGreatDoorJ16
import Derived.Test.YtpemdcnneabbfaaGreatDoorJ13
import Derived.Test.YtpemdcnneabbfaaGreatDoorJ11
import Derived.Test.YtpemdcnneabbfaaGreatDoorRows
import Derived.ProofKit
import Derived.OpenShut
import Derived.Carry
import Derived.Deep.DeepHandedRow
import Derived.LaidLaws
import Derived.ChangeMaps5
set_option linter.unusedVariables false
set_option linter.unusedSectionVars false
set_option linter.unusedSimpArgs false
set_option maxRecDepth 20000
namespace Go.Proofs.YtpemdcnneabbfaaGreatDoor
open Go.RowKit
section
set_option maxHeartbeats 1000000 in
theorem pack_bad (n : Int) (d : Dat) (w : World) (hT : Tab w) (h : ¬ binN n) :
    Calls Tryz.prog 48 #[.int .i64 n, d.v] w fun x w' => x = .returned (.tuple #[Z4, .int .i64 1]) ∧ Below w.heap.size w w' := by
  have c31 := fun w hT => layoutOf_bad n w hT h
  obtain ⟨c, s, g, x, k⟩ := d
  unfold Dat.v
  dsimp only
  go_enter Tryz.func48, Tryz.ntmps48
  go_wp2_with (go_at_call 89; refine (c31 _ ((hT.alloc _).alloc _)).mono ?_; rintro x w1 ⟨rfl, hb1⟩; obtain ⟨hc1, hf1⟩ := bcell hb1; have hz1_0 : w.heap.size < w1.heap.size := lt_below hb1 ltg; have hl1_0 := Nat.le_of_lt hz1_0; have hz1_1 : w.heap.size + 1 < w1.heap.size := lt_below hb1 ltg; have hl1_1 := Nat.le_of_lt hz1_1; have hA1 := bnext (w0 := w) bgo hb1; have hs1 := hA1.size; clear hb1)
  have hsm := cell_set_map
  exact bodyPost_ret (v := .tuple #[Z4, .int .i64 1]) (by simp only [results, Tryz.results48]; go_simp) rfl ⟨rfl, bgo⟩
section
variable (n : Int) (f e : Nat) (l m : Int) (w : World) (hT : Tab w) (c x : Int) (s g : Bool) (k : Nat)
  (c31 : ∀ w, Tab w → Calls Tryz.prog 89 #[.int .i64 n] w fun x w' => x = .returned (.tuple #[LV f e l m, .int .i64 0]) ∧ Below w.heap.size w w')
include hT c31
set_option maxHeartbeats 1000000 in
theorem pack_1 (R : Nat) (E : Int) (c32 : ∀ w, Calls Tryz.prog 90 #[LV f e l m, DV 1 s g x k] w fun x w' => x = .returned (.tuple #[A4 R, .int .i64 E]) ∧ Below w.heap.size w w') :
    Calls Tryz.prog 48 #[.int .i64 n, DV 1 s g x k] w fun x w' => x = .returned (.tuple #[A4 R, .int .i64 E]) ∧ Below w.heap.size w w' := by
  go_enter Tryz.func48, Tryz.ntmps48
  go_wp2_with (first
    | (go_at_call 89; refine (c31 _ ((hT.alloc _).alloc _)).mono ?_; rintro x w1 ⟨rfl, hb1⟩; obtain ⟨hc1, hf1⟩ := bcell hb1; have hz1_0 : w.heap.size < w1.heap.size := lt_below hb1 ltg; have hl1_0 := Nat.le_of_lt hz1_0; have hz1_1 : w.heap.size + 1 < w1.heap.size := lt_below hb1 ltg; have hl1_1 := Nat.le_of_lt hz1_1; have hA1 := bnext (w0 := w) bgo hb1; have hs1 := hA1.size; clear hb1)
    | (go_at_call 90; refine (c32 _).mono ?_; rintro x w2 ⟨rfl, hb2⟩; obtain ⟨hc2, hf2⟩ := bcell hb2; have hz2_0 : w.heap.size < w2.heap.size := lt_below hb2 ltg; have hl2_0 := Nat.le_of_lt hz2_0; have hz2_1 : w.heap.size + 1 < w2.heap.size := lt_below hb2 ltg; have hl2_1 := Nat.le_of_lt hz2_1; have hz2_2 : w1.heap.size < w2.heap.size := lt_below hb2 ltg; have hl2_2 := Nat.le_of_lt hz2_2; have hA2 := bnext (w0 := w) bgo hb2; have hs2 := hA2.size; clear hb2))
  have hsm := cell_set_map
  exact bodyPost_ret (v := .tuple #[A4 R, .int .i64 E]) (by simp only [results, Tryz.results48]; go_simp) rfl ⟨rfl, bgo⟩
set_option maxHeartbeats 1000000 in
theorem pack_2 (R : Nat) (E : Int) (c33 : ∀ w, Calls Tryz.prog 91 #[LV f e l m, DV 2 s g x k] w fun x w' => x = .returned (.tuple #[A4 R, .int .i64 E]) ∧ Below w.heap.size w w') :
    Calls Tryz.prog 48 #[.int .i64 n, DV 2 s g x k] w fun x w' => x = .returned (.tuple #[A4 R, .int .i64 E]) ∧ Below w.heap.size w w' := by
  go_enter Tryz.func48, Tryz.ntmps48
  go_wp2_with (first
    | (go_at_call 89; refine (c31 _ ((hT.alloc _).alloc _)).mono ?_; rintro x w1 ⟨rfl, hb1⟩; obtain ⟨hc1, hf1⟩ := bcell hb1; have hz1_0 : w.heap.size < w1.heap.size := lt_below hb1 ltg; have hl1_0 := Nat.le_of_lt hz1_0; have hz1_1 : w.heap.size + 1 < w1.heap.size := lt_below hb1 ltg; have hl1_1 := Nat.le_of_lt hz1_1; have hA1 := bnext (w0 := w) bgo hb1; have hs1 := hA1.size; clear hb1)
    | (go_at_call 91; refine (c33 _).mono ?_; rintro x w2 ⟨rfl, hb2⟩; obtain ⟨hc2, hf2⟩ := bcell hb2; have hz2_0 : w.heap.size < w2.heap.size := lt_below hb2 ltg; have hl2_0 := Nat.le_of_lt hz2_0; have hz2_1 : w.heap.size + 1 < w2.heap.size := lt_below hb2 ltg; have hl2_1 := Nat.le_of_lt hz2_1; have hz2_2 : w1.heap.size < w2.heap.size := lt_below hb2 ltg; have hl2_2 := Nat.le_of_lt hz2_2; have hA2 := bnext (w0 := w) bgo hb2; have hs2 := hA2.size; clear hb2))
  have hsm := cell_set_map
  exact bodyPost_ret (v := .tuple #[A4 R, .int .i64 E]) (by simp only [results, Tryz.results48]; go_simp) rfl ⟨rfl, bgo⟩
set_option maxHeartbeats 1000000 in
theorem pack_3 (R : Nat) (E : Int) (c34 : ∀ w, Calls Tryz.prog 92 #[LV f e l m, DV 3 s g x k] w fun x w' => x = .returned (.tuple #[A4 R, .int .i64 E]) ∧ Below w.heap.size w w') :
    Calls Tryz.prog 48 #[.int .i64 n, DV 3 s g x k] w fun x w' => x = .returned (.tuple #[A4 R, .int .i64 E]) ∧ Below w.heap.size w w' := by
  go_enter Tryz.func48, Tryz.ntmps48
  go_wp2_with (first
    | (go_at_call 89; refine (c31 _ ((hT.alloc _).alloc _)).mono ?_; rintro x w1 ⟨rfl, hb1⟩; obtain ⟨hc1, hf1⟩ := bcell hb1; have hz1_0 : w.heap.size < w1.heap.size := lt_below hb1 ltg; have hl1_0 := Nat.le_of_lt hz1_0; have hz1_1 : w.heap.size + 1 < w1.heap.size := lt_below hb1 ltg; have hl1_1 := Nat.le_of_lt hz1_1; have hA1 := bnext (w0 := w) bgo hb1; have hs1 := hA1.size; clear hb1)
    | (go_at_call 92; refine (c34 _).mono ?_; rintro x w2 ⟨rfl, hb2⟩; obtain ⟨hc2, hf2⟩ := bcell hb2; have hz2_0 : w.heap.size < w2.heap.size := lt_below hb2 ltg; have hl2_0 := Nat.le_of_lt hz2_0; have hz2_1 : w.heap.size + 1 < w2.heap.size := lt_below hb2 ltg; have hl2_1 := Nat.le_of_lt hz2_1; have hz2_2 : w1.heap.size < w2.heap.size := lt_below hb2 ltg; have hl2_2 := Nat.le_of_lt hz2_2; have hA2 := bnext (w0 := w) bgo hb2; have hs2 := hA2.size; clear hb2))
  have hsm := cell_set_map
  exact bodyPost_ret (v := .tuple #[A4 R, .int .i64 E]) (by simp only [results, Tryz.results48]; go_simp) rfl ⟨rfl, bgo⟩
set_option maxHeartbeats 1000000 in
theorem pack_0 (h1 : (c == 1) = false) (h2 : (c == 2) = false) (h3 : (c == 3) = false) :
    Calls Tryz.prog 48 #[.int .i64 n, DV c s g x k] w fun x w' => x = .returned (.tuple #[Z4, .int .i64 3]) ∧ Below w.heap.size w w' := by
  go_enter Tryz.func48, Tryz.ntmps48
  go_wp2_with (go_at_call 89; refine (c31 _ ((hT.alloc _).alloc _)).mono ?_; rintro x w1 ⟨rfl, hb1⟩; obtain ⟨hc1, hf1⟩ := bcell hb1; have hz1_0 : w.heap.size < w1.heap.size := lt_below hb1 ltg; have hl1_0 := Nat.le_of_lt hz1_0; have hz1_1 : w.heap.size + 1 < w1.heap.size := lt_below hb1 ltg; have hl1_1 := Nat.le_of_lt hz1_1; have hA1 := bnext (w0 := w) bgo hb1; have hs1 := hA1.size; clear hb1)
  have hsm := cell_set_map
  exact bodyPost_ret (v := .tuple #[Z4, .int .i64 3]) (by simp only [results, Tryz.results48]; go_simp) rfl ⟨rfl, bgo⟩
set_option maxHeartbeats 1000000 in
theorem largest_ok (hf : f ≤ 240) (P1 P0 Fr R : Nat) (cr sp : Int) (hsp : 1 ≤ sp ∧ sp ≤ 1000000)
    (c23 : ∀ w, Calls Tryz.prog 98 #[.int .i64 f] w fun x w' => x = .returned (A4 P1) ∧ Below w.heap.size w w')
    (c230 : ∀ w, Calls Tryz.prog 98 #[.int .i64 0] w fun x w' => x = .returned (A4 P0) ∧ Below w.heap.size w w')
    (c39 : ∀ w, Calls Tryz.prog 126 #[A4 P1, A4 P0] w fun x w' => x = .returned (.tuple #[A4 Fr, .int .u64 cr]) ∧ Below w.heap.size w w')
    (c20 : ∀ w, Calls Tryz.prog 95 #[LV f e l m] w fun x w' => x = .returned (.int .u64 sp) ∧ Below w.heap.size w w')
    (c40 : ∀ w, Calls Tryz.prog 122 #[LV f e l m, .bool s, .int .u64 (sp - 1), A4 Fr] w fun x w' => x = .returned (A4 R) ∧ Below w.heap.size w w') :
    Calls Tryz.prog 108 #[.int .i64 n, .bool s] w fun x w' => x = .returned (.tuple #[A4 R, .int .i64 0]) ∧ Below w.heap.size w w' := by
  go_enter Tryz.func108, Tryz.ntmps108
  go_wp2_with (first
    | (go_at_call 89; refine (c31 _ (hT.alloc _)).mono ?_; rintro x w1 ⟨rfl, hb1⟩; obtain ⟨hc1, hf1⟩ := bcell hb1; have hz1_0 : w.heap.size < w1.heap.size := lt_below hb1 ltg; have hl1_0 := Nat.le_of_lt hz1_0; have hA1 := bnext (w0 := w) bgo hb1; have hs1 := hA1.size; clear hb1)
    | (go_at_call 98; refine (c23 _).mono ?_; rintro x w2 ⟨rfl, hb2⟩; obtain ⟨hc2, hf2⟩ := bcell hb2; have hz2_0 : w.heap.size < w2.heap.size := lt_below hb2 ltg; have hl2_0 := Nat.le_of_lt hz2_0; have hz2_1 : w1.heap.size < w2.heap.size := lt_below hb2 ltg; have hl2_1 := Nat.le_of_lt hz2_1; have hA2 := bnext (w0 := w) bgo hb2; have hs2 := hA2.size; clear hb2)
    | (go_at_call 98; refine (c230 _).mono ?_; rintro x w3 ⟨rfl, hb3⟩; obtain ⟨hc3, hf3⟩ := bcell hb3; have hz3_0 : w.heap.size < w3.heap.size := lt_below hb3 ltg; have hl3_0 := Nat.le_of_lt hz3_0; have hz3_1 : w1.heap.size < w3.heap.size := lt_below hb3 ltg; have hl3_1 := Nat.le_of_lt hz3_1; have hA3 := bnext (w0 := w) bgo hb3; have hs3 := hA3.size; clear hb3)
    | (go_at_call 126; refine (c39 _).mono ?_; rintro x w4 ⟨rfl, hb4⟩; obtain ⟨hc4, hf4⟩ := bcell hb4; have hz4_0 : w.heap.size < w4.heap.size := lt_below hb4 ltg; have hl4_0 := Nat.le_of_lt hz4_0; have hz4_1 : w1.heap.size < w4.heap.size := lt_below hb4 ltg; have hl4_1 := Nat.le_of_lt hz4_1; have hA4 := bnext (w0 := w) bgo hb4; have hs4 := hA4.size; clear hb4))
  refine wp_tail 7 (by kernel_rfl) (by kernel_rfl) (by kernel_rfl) (fun _ _ d _ _ h => by cases d <;> exact h) fun hne hcell => ?_
  simp only [List.take_succ_cons, List.take_zero, List.drop_succ_cons, List.drop_zero]
  repeat go_big_quiet_step (fail)
  go_big_quiet_step ((go_at_call 95; exact calls_wd _ bk_next (c20 _)))
  repeat go_big_quiet_step (fail)
  go_big_quiet_step ((go_at_call 122; exact calls_wd _ bk_next (c40 _)))
  refine wpQuiet_nil fun w5 hb5 => ?_
  obtain ⟨hc5, hf5⟩ := bcell hb5; have hz5_0 : w.heap.size < w5.heap.size := lt_below hb5 ltg; have hl5_0 := Nat.le_of_lt hz5_0; have hz5_1 : w1.heap.size < w5.heap.size := lt_below hb5 ltg; have hl5_1 := Nat.le_of_lt hz5_1; have hz5_2 : w4.heap.size < w5.heap.size := lt_below hb5 ltg; have hl5_2 := Nat.le_of_lt hz5_2; have hA5 := bnext (w0 := w) bgo hb5; have hs5 := hA5.size; clear hb5
  have hsm := cell_set_map
  go_wp2
  exact bodyPost_ret (v := .tuple #[A4 R, .int .i64 0]) (by simp only [results, Tryz.results108]; go_simp) rfl ⟨rfl, bgo⟩
end
set_option maxHeartbeats 1000000 in
theorem largest_bad (n : Int) (s : Bool) (w : World) (hT : Tab w) (h : ¬ binN n) :
    Calls Tryz.prog 108 #[.int .i64 n, .bool s] w fun x w' => x = .returned (.tuple #[Z4, .int .i64 1]) ∧ Below w.heap.size w w' := by
  have c31 := fun w hT => layoutOf_bad n w hT h
  go_enter Tryz.func108, Tryz.ntmps108
  go_wp2_with (go_at_call 89; refine (c31 _ (hT.alloc _)).mono ?_; rintro x w1 ⟨rfl, hb1⟩; obtain ⟨hc1, hf1⟩ := bcell hb1; have hz1_0 : w.heap.size < w1.heap.size := lt_below hb1 ltg; have hl1_0 := Nat.le_of_lt hz1_0; have hA1 := bnext (w0 := w) bgo hb1; have hs1 := hA1.size; clear hb1)
  have hsm := cell_set_map
  exact bodyPost_ret (v := .tuple #[Z4, .int .i64 1]) (by simp only [results, Tryz.results108]; go_simp) rfl ⟨rfl, bgo⟩

/-- what Pack answers: the pattern, and the error's number -/
def pkV (n : Int) (d : Dat) : Nat := if binN n ∧ isD (fN n) (leastN n) (mostN n) d then pk (fN n) (eN n) (leastN n) d else 0
def pkE (n : Int) (d : Dat) : Int := if binN n then (if isD (fN n) (leastN n) (mostN n) d then 0 else 3) else 1
theorem pack_any (n : Int) (d : Dat) (w : World) (hT : Tab w) (hk : d.k < 2 ^ 256) :
    Calls Tryz.prog 48 #[.int .i64 n, d.v] w fun x w' => x = .returned (.tuple #[A4 (pkV n d), .int .i64 (pkE n d)]) ∧ Below w.heap.size w w' := by
  by_cases hb : binN n
  · have hF := bin_fm hb
    have c31 := fun w hT => layoutOf_ok n w hT hb
    have key : ∀ d : Dat, Value.tuple #[A4 (pkV n d), .int .i64 (pkE n d)] = if isD (fN n) (leastN n) (mostN n) d then .tuple #[A4 (pk (fN n) (eN n) (leastN n) d), .int .i64 0] else .tuple #[Z4, .int .i64 3] := fun d => by
      unfold pkV pkE
      by_cases hi : isD (fN n) (leastN n) (mostN n) d
      · rw [if_pos ⟨hb, hi⟩, if_pos hb, if_pos hi, if_pos hi]
      · rw [if_neg (fun h => hi h.2), if_pos hb, if_neg hi, if_neg hi, Z4_eq]
    obtain ⟨c, s, g, x, k⟩ := d
    unfold Dat.v
    dsimp only at hk ⊢
    by_cases h1 : c = 1
    · subst h1
      have c32 := fun w => packFinite_any (fN n) (eN n) (leastN n) (mostN n) w s g x k hF hk
      simp only [← key] at c32
      exact pack_1 n _ _ _ _ w hT x s g k c31 _ _ c32
    · by_cases h2 : c = 2
      · subst h2
        have c33 := fun w => packInfinite_any (fN n) (eN n) (leastN n) (mostN n) w s g x k hF hk
        simp only [← key] at c33
        exact pack_2 n _ _ _ _ w hT x s g k c31 _ _ c33
      · by_cases h3 : c = 3
        · subst h3
          have c34 := fun w => packNaN_any (fN n) (eN n) (leastN n) (mostN n) w s g x k hF hk
          simp only [← key] at c34
          exact pack_3 n _ _ _ _ w hT x s g k c31 _ _ c34
        · rw [key, if_neg (by unfold isD; simp [h1, h2, h3])]
          exact pack_0 n _ _ _ _ w hT c x s g k c31 (by simpa using h1) (by simpa using h2) (by simpa using h3)
  · have e1 : pkV n d = 0 := if_neg fun h => hb h.1
    have e2 : pkE n d = 1 := if_neg hb
    rw [e1, e2, Z4_eq]
    exact pack_bad n d w hT hb
def lgV (n : Int) (s : Bool) : Nat := if binN n then (2 ^ eN n - 2) * 2 ^ fN n + (2 ^ fN n - 1) + (if s then 2 ^ (fN n + eN n) else 0) else 0
def lgE (n : Int) : Int := if binN n then 0 else 1
theorem largest_any (n : Int) (s : Bool) (w : World) (hT : Tab w) :
    Calls Tryz.prog 108 #[.int .i64 n, .bool s] w fun x w' => x = .returned (.tuple #[A4 (lgV n s), .int .i64 (lgE n)]) ∧ Below w.heap.size w w' := by
  unfold lgV lgE
  by_cases hb : binN n
  · have hF := bin_fm hb
    rw [if_pos hb, if_pos hb]
    have hf := hF.f240
    have hp := pow_e hF.e2 hF.e15
    have hpc : ((2 : Int) ^ eN n) = ((2 ^ eN n : Nat) : Int) := by simp
    rw [hpc] at hp
    have hp1 : 1 ≤ 2 ^ fN n := Nat.one_le_two_pow
    have hp2 : 2 ^ fN n ≤ 2 ^ (fN n + 1) := Nat.pow_le_pow_right (by decide) (by omega)
    have h256 : 2 ^ fN n < 2 ^ 256 := Nat.pow_lt_pow_right (by decide) (by omega)
    have c39 := fun w => sub4 (2 ^ fN n) (2 ^ 0) w h256 (by decide)
    rw [A4_sub (show 2 ^ 0 ≤ 2 ^ fN n from hp1), if_neg (show ¬ 2 ^ fN n < 2 ^ 0 by omega)] at c39
    have c40 := fun w => join_any (fN n) (eN n) (leastN n) (mostN n) s (2 ^ eN n - 2) (2 ^ fN n - 1) w hF (by omega) (by omega)
    rw [show ((2 ^ eN n - 2 : Nat) : Int) = ((2 ^ eN n - 1 : Nat) : Int) - 1 by omega] at c40
    have c230 := fun w => power_any 0 w (by decide)
    exact largest_ok n _ _ _ _ w hT s (fun w hT => layoutOf_ok n w hT hb) hf _ _ _ _ _ _ (by omega) (fun w => power_any (fN n) w (by omega)) c230 c39 (fun w => special_any _ _ _ _ w hF) c40
  · rw [if_neg hb, if_neg hb, Z4_eq]
    exact largest_bad n s w hT hb

/-- what Unpack answers -/
def unD (n : Int) (B : Nat) : Dat := if goodN n B then unp (fN n) (eN n) (leastN n) B else ⟨0, false, false, 0, 0⟩
def unE (n : Int) (B : Nat) : Int := if goodN n B then 0 else 1
theorem unpack_any (n : Int) (B : Nat) (w : World) (hT : Tab w) (hB : B < 2 ^ 256) :
    Calls Tryz.prog 49 #[.int .i64 n, A4 B] w fun x w' => x = .returned (.tuple #[(unD n B).v, .int .i64 (unE n B)]) ∧ Below w.heap.size w w' := by
  unfold unD unE
  by_cases h : goodN n B
  · rw [if_pos h, if_pos h]; exact unpack_ok n B w hT hB h
  · rw [if_neg h, if_neg h]; exact unpack_bad n B w hT hB h
end
end Go.Proofs.YtpemdcnneabbfaaGreatDoor

namespace Go.Proofs.YtpemdcnneabbfaaGreatDoor

/-- a pattern made of its fields -/
theorem fields_of {f e S E F : Nat} (hS : S ≤ 1) (hE : E < 2 ^ e) (hF : F < 2 ^ f) :
    (E * 2 ^ f + F + S * 2 ^ (f + e)) % 2 ^ f = F ∧ (E * 2 ^ f + F + S * 2 ^ (f + e)) / 2 ^ f % 2 ^ e = E ∧ (E * 2 ^ f + F + S * 2 ^ (f + e)) / 2 ^ (f + e) = S ∧ E * 2 ^ f + F + S * 2 ^ (f + e) < 2 ^ (f + e + 1) := by
  have hP : 0 < 2 ^ f := Nat.two_pow_pos f
  have hR : 0 < 2 ^ e := Nat.two_pow_pos e
  have e1 : E * 2 ^ f + F + S * 2 ^ (f + e) = F + (E + S * 2 ^ e) * 2 ^ f := by
    rw [Nat.pow_add, Nat.add_mul, Nat.mul_assoc, Nat.mul_comm (2 ^ e) (2 ^ f)]; omega
  have d1 : (E * 2 ^ f + F + S * 2 ^ (f + e)) / 2 ^ f = E + S * 2 ^ e := by
    rw [e1, Nat.add_mul_div_right _ _ hP, Nat.div_eq_of_lt hF, Nat.zero_add]
  have d2 : (E * 2 ^ f + F + S * 2 ^ (f + e)) / 2 ^ (f + e) = S := by
    rw [Nat.pow_add, ← Nat.div_div_eq_div_mul, ← Nat.pow_add, d1, Nat.add_mul_div_right _ _ hR, Nat.div_eq_of_lt hE, Nat.zero_add]
  refine ⟨?_, ?_, d2, ?_⟩
  · rw [e1, Nat.add_mul_mod_self_right, Nat.mod_eq_of_lt hF]
  · rw [d1, Nat.add_mul_mod_self_right, Nat.mod_eq_of_lt hE]
  · have hp : 0 < 2 ^ (f + e) := Nat.two_pow_pos _
    refine Nat.lt_of_div_lt_div (c := 2 ^ (f + e)) ?_
    rw [d2, Nat.pow_succ, Nat.mul_comm, Nat.mul_div_cancel _ hp]
    omega
theorem fields_in {f e B : Nat} (hB : B < 2 ^ (f + e + 1)) : ∃ S E F, S ≤ 1 ∧ E < 2 ^ e ∧ F < 2 ^ f ∧ B = E * 2 ^ f + F + S * 2 ^ (f + e) := by
  refine ⟨B / 2 ^ (f + e), B / 2 ^ f % 2 ^ e, B % 2 ^ f, ?_, Nat.mod_lt _ (Nat.two_pow_pos _), Nat.mod_lt _ (Nat.two_pow_pos _), ?_⟩
  · have : B / 2 ^ (f + e) < 2 := Nat.div_lt_of_lt_mul (by rw [Nat.mul_comm]; rw [Nat.pow_succ] at hB; omega)
    omega
  · have h1 := Nat.div_add_mod' B (2 ^ f)
    have h2 := Nat.div_add_mod' (B / 2 ^ f) (2 ^ e)
    rw [Nat.div_div_eq_div_mul, ← Nat.pow_add] at h2
    have h3 : (B / 2 ^ (f + e) * 2 ^ e + B / 2 ^ f % 2 ^ e) * 2 ^ f = B / 2 ^ f * 2 ^ f := by rw [h2]
    rw [Nat.add_mul, Nat.mul_assoc, Nat.mul_comm (2 ^ e) (2 ^ f), ← Nat.pow_add] at h3
    omega
theorem sg_of {f e S E F : Nat} (hS : S ≤ 1) (hE : E < 2 ^ e) (hF : F < 2 ^ f) : sgB f e (E * 2 ^ f + F + S * 2 ^ (f + e)) = decide (S = 1) := by
  unfold sgB
  rw [(fields_of hS hE hF).2.2.1]
  have : S = 0 ∨ S = 1 := by omega
  rcases this with rfl | rfl <;> rfl
/-- what a pattern means, by its fields -/
def mean (f e : Nat) (l : Int) (S E F : Nat) : Dat :=
  if E = 2 ^ e - 1 then spc f (decide (S = 1)) F else if E = 0 then ⟨1, decide (S = 1), false, l, F⟩ else ⟨1, decide (S = 1), false, l + ((E : Int) - 1), F + 2 ^ f⟩
theorem unp_mean {f e S E F : Nat} (l : Int) (hS : S ≤ 1) (hE : E < 2 ^ e) (hF : F < 2 ^ f) : unp f e l (E * 2 ^ f + F + S * 2 ^ (f + e)) = mean f e l S E F := by
  unfold unp mean
  obtain ⟨h1, h2, _, _⟩ := fields_of hS hE hF
  rw [h1, h2, sg_of hS hE hF]
theorem sel {S X : Nat} (hS : S ≤ 1) : (if decide (S = 1) = true then X else 0) = S * X := by
  have : S = 0 ∨ S = 1 := by omega
  rcases this with rfl | rfl <;> simp
theorem half {f : Nat} (h : 2 ≤ f) : 2 ^ (f - 1) + 2 ^ (f - 1) = 2 ^ f ∧ 1 ≤ 2 ^ (f - 1) := by
  refine ⟨?_, Nat.one_le_two_pow⟩
  have : f = f - 1 + 1 := by omega
  conv => rhs; rw [this, Nat.pow_succ]
  omega
theorem mean_isD {f e S E F : Nat} {l m : Int} (h : Fm f e l m) (hS : S ≤ 1) (hE : E < 2 ^ e) (hF : F < 2 ^ f) : isD f l m (mean f e l S E F) ∧ pk f e l (mean f e l S E F) = E * 2 ^ f + F + S * 2 ^ (f + e) ∧ (mean f e l S E F).k < 2 ^ 256 := by
  have hp := pow_e h.e2 h.e15
  have hpc : ((2 : Int) ^ e) = ((2 ^ e : Nat) : Int) := by simp
  have hm := h.m
  rw [hpc] at hp hm
  have hh := half h.f2
  have h256 : 2 ^ (f + 1) ≤ 2 ^ 256 := Nat.pow_le_pow_right (by decide) (by have := h.f240; omega)
  have hs1 : 2 ^ (f + 1) = 2 ^ f + 2 ^ f := by rw [Nat.pow_succ]; omega
  unfold mean
  by_cases h1 : E = 2 ^ e - 1
  · rw [if_pos h1]
    unfold spc
    by_cases h2 : F = 0
    · rw [if_pos h2]
      refine ⟨Or.inr (Or.inl ⟨rfl, rfl, rfl, rfl⟩), ?_, by show 0 < _; omega⟩
      unfold pk
      simp only [show ¬ ((2 : Int) = 1) by decide, if_false, if_true]
      rw [sel hS, ← h1, h2]
    · rw [if_neg h2]
      by_cases h3 : F < 2 ^ (f - 1)
      · rw [if_pos h3]
        refine ⟨Or.inr (Or.inr ⟨rfl, rfl, h3, Or.inl h2⟩), ?_, by show F < _; omega⟩
        unfold pk
        simp only [show ¬ ((3 : Int) = 1) by decide, show ¬ ((3 : Int) = 2) by decide, if_false, if_true]
        rw [sel hS, ← h1]
      · rw [if_neg h3]
        refine ⟨Or.inr (Or.inr ⟨rfl, rfl, by show F - 2 ^ (f - 1) < _; omega, Or.inr rfl⟩), ?_, by show F - 2 ^ (f - 1) < _; omega⟩
        unfold pk
        simp only [show ¬ ((3 : Int) = 1) by decide, show ¬ ((3 : Int) = 2) by decide, if_false, Bool.false_eq_true]
        rw [sel hS, ← h1, Nat.sub_add_cancel (by omega)]
  · rw [if_neg h1]
    by_cases h2 : E = 0
    · rw [if_pos h2]
      refine ⟨Or.inl ⟨rfl, rfl, by show F < _; omega, Int.le_refl _, by show l ≤ m; omega, Or.inr rfl⟩, ?_, by show F < _; omega⟩
      unfold pk
      simp only [if_true, Int.sub_self, Int.toNat_zero, Nat.zero_mul]
      rw [sel hS, h2, Nat.zero_mul]
    · rw [if_neg h2]
      refine ⟨Or.inl ⟨rfl, rfl, by show F + 2 ^ f < _; omega, by show l ≤ l + ((E : Int) - 1); omega, by show l + ((E : Int) - 1) ≤ m; omega, Or.inl (by show 2 ^ f ≤ F + 2 ^ f; omega)⟩, ?_, by show F + 2 ^ f < _; omega⟩
      unfold pk
      simp only [if_true]
      rw [sel hS, show (l + ((E : Int) - 1) - l).toNat = E - 1 by omega]
      obtain ⟨E', rfl⟩ : ∃ E', E = E' + 1 := ⟨E - 1, by omega⟩
      rw [Nat.add_sub_cancel, Nat.add_mul]
      omega
theorem pk_mean {f e : Nat} {l m : Int} {d : Dat} (h : Fm f e l m) (hd : isD f l m d) : ∃ S E F, S ≤ 1 ∧ E < 2 ^ e ∧ F < 2 ^ f ∧ pk f e l d = E * 2 ^ f + F + S * 2 ^ (f + e) ∧ mean f e l S E F = d := by
  have hp := pow_e h.e2 h.e15
  have hpc : ((2 : Int) ^ e) = ((2 ^ e : Nat) : Int) := by simp
  have hm := h.m
  rw [hpc] at hp hm
  have hh := half h.f2
  have hs1 : 2 ^ (f + 1) = 2 ^ f + 2 ^ f := by rw [Nat.pow_succ]; omega
  obtain ⟨c, s, g, x, k⟩ := d
  have hsg : ∃ S, S ≤ 1 ∧ decide (S = 1) = s ∧ ∀ X, (if s then X else 0) = S * X := by
    cases s
    · exact ⟨0, by decide, rfl, fun X => by simp⟩
    · exact ⟨1, by decide, rfl, fun X => by simp⟩
  obtain ⟨S, hS, hs, hsX⟩ := hsg
  rcases hd with ⟨hc, hg, hk, hx1, hx2, hx3⟩ | ⟨hc, hg, hx, hk⟩ | ⟨hc, hx, hk, hg⟩
  · dsimp only at hc hg hk hx1 hx2 hx3
    subst hc hg
    by_cases hf : 2 ^ f ≤ k
    · refine ⟨S, (x - l).toNat + 1, k - 2 ^ f, hS, by omega, by omega, ?_, ?_⟩
      · unfold pk
        simp only [if_true, hsX]
        rw [Nat.add_mul]; omega
      · unfold mean
        rw [if_neg (by omega), if_neg (by omega), hs, Nat.sub_add_cancel hf]
        congr 1
        omega
    · obtain rfl : x = l := by omega
      refine ⟨S, 0, k, hS, by omega, by omega, ?_, ?_⟩
      · unfold pk
        simp only [if_true, hsX, Int.sub_self, Int.toNat_zero]
      · unfold mean
        rw [if_neg (by omega), if_pos rfl, hs]
  · dsimp only at hc hg hx hk
    subst hc hg hx hk
    refine ⟨S, 2 ^ e - 1, 0, hS, by omega, by omega, ?_, ?_⟩
    · unfold pk
      simp only [show ¬ ((2 : Int) = 1) by decide, if_false, if_true, hsX]
    · unfold mean spc
      rw [if_pos rfl, if_pos rfl, hs]
  · dsimp only at hc hx hk hg
    subst hc hx
    cases g with
    | true =>
      have hk0 : k ≠ 0 := hg.resolve_right (by decide)
      refine ⟨S, 2 ^ e - 1, k, hS, by omega, by omega, ?_, ?_⟩
      · unfold pk
        simp only [show ¬ ((3 : Int) = 1) by decide, show ¬ ((3 : Int) = 2) by decide, if_false, if_true, hsX]
      · unfold mean spc
        rw [if_pos rfl, if_neg hk0, if_pos hk, hs]
    | false =>
      refine ⟨S, 2 ^ e - 1, k + 2 ^ (f - 1), hS, by omega, by omega, ?_, ?_⟩
      · unfold pk
        simp only [show ¬ ((3 : Int) = 1) by decide, show ¬ ((3 : Int) = 2) by decide, if_false, Bool.false_eq_true, hsX]
      · unfold mean spc
        rw [if_pos rfl, if_neg (by omega), if_neg (by omega), hs, Nat.add_sub_cancel]
theorem unD_k (n : Int) (B : Nat) : (unD n B).k < 2 ^ 256 := by
  unfold unD
  by_cases h : goodN n B
  · rw [if_pos h]
    obtain ⟨S, E, F, hS, hE, hFr, hB⟩ := fields_in h.2
    rw [hB, unp_mean _ hS hE hFr]
    exact (mean_isD (bin_fm h.1) hS hE hFr).2.2
  · rw [if_neg h]; decide
theorem good_256 {n : Int} {B : Nat} (h : goodN n B) : B < 2 ^ 256 := by
  have := (bin_fm h.1).fe
  exact Nat.lt_of_lt_of_le h.2 (Nat.pow_le_pow_right (by decide) (by omega))
/-- the other way round -/
theorem back_pk {n : Int} {d : Dat} (h : pkE n d = 0) : goodN n (pkV n d) ∧ unD n (pkV n d) = d := by
  have hb : binN n := by
    unfold pkE at h
    by_cases hb : binN n
    · exact hb
    · rw [if_neg hb] at h; cases h
  have hi : isD (fN n) (leastN n) (mostN n) d := by
    unfold pkE at h
    rw [if_pos hb] at h
    by_cases hi : isD (fN n) (leastN n) (mostN n) d
    · exact hi
    · rw [if_neg hi] at h; cases h
  have hF := bin_fm hb
  obtain ⟨S, E, F, hS, hE, hFr, hB, hm⟩ := pk_mean hF hi
  have hv : pkV n d = E * 2 ^ fN n + F + S * 2 ^ (fN n + eN n) := by
    unfold pkV; rw [if_pos ⟨hb, hi⟩, hB]
  have hg : goodN n (pkV n d) := ⟨hb, by rw [hv]; exact (fields_of hS hE hFr).2.2.2⟩
  refine ⟨hg, ?_⟩
  unfold unD
  rw [if_pos hg, hv, unp_mean _ hS hE hFr, hm]
theorem pkV_256 (n : Int) (d : Dat) : pkV n d < 2 ^ 256 := by
  by_cases h : pkE n d = 0
  · exact good_256 (back_pk h).1
  · have : pkV n d = 0 := by
      unfold pkV pkE at *
      by_cases hb : binN n
      · rw [if_pos hb] at h
        by_cases hi : isD (fN n) (leastN n) (mostN n) d
        · rw [if_pos hi] at h; exact absurd rfl h
        · exact if_neg fun hh => hi hh.2
      · exact if_neg fun hh => hb hh.1
    rw [this]; decide
end Go.Proofs.YtpemdcnneabbfaaGreatDoor

namespace Go.Proofs.YtpemdcnneabbfaaGreatDoor
open Go.RowKit
section
/-- what desc tells of a binary format -/
abbrev DI (n : Int) (nm : ByteArray) (wd : Int) (f e : Nat) (l m : Int) : Value := .agg #[.int .i64 n, .string nm, .int .i64 2, .int .i64 wd, .int .i64 ((f : Int) + 1), .int .i64 e, .int .i64 l, .int .i64 m, .int .i64 ((f : Int) - 1), .bool false]
theorem copy0 (W : World) (d a : Option Addr) (cap : Nat) : Sem.run Tryz.prog (Builtin.copy_ #[30, 30] 3 #[.slice d 4 4, .slice a 0 cap]) W = .ok (.int .i64 0) W :=
  run_copy_none (P := Tryz.prog) W 30 30 3 23 d a 4 4 0 cap Tryz.underlying30 (by kernel_rfl) rfl
theorem copy1 (W : World) (g b off cap : Nat) (v0 : Int) (h0 : W.cell? ⟨b, off, none⟩ = some (.int .u64 v0)) (c0 : (W.cell? ⟨g, 4, none⟩).isSome = true) (f0 : W.frozen? ⟨g, 4, none⟩ = false) :
    Sem.run Tryz.prog (Builtin.copy_ #[30, 30] 3 #[.slice (some ⟨g, 4, none⟩) 4 4, .slice (some ⟨b, off, none⟩) 1 cap]) W = .ok (.int .i64 1) (W.setCell ⟨g, 4, none⟩ (.int .u64 v0)) := by
  have := run_copy_cells (P := Tryz.prog) W 30 30 3 23 g 4 4 4 ⟨b, off, none⟩ 1 cap [.int .u64 v0] Tryz.underlying30 (by kernel_rfl) rfl ?_ ?_ ?_ ?_
  · exact this
  · intro j v
    match j, v with
    | 0, _ => intro h; cases h; simpa [Addr.add] using h0
    | (j + 1), _ => intro h; simp at h
  · intro j hj
    match j, hj with
    | 0, _ => simpa using c0
    | (j + 1), h => exact absurd h (by simp only [List.length_cons, List.length_nil]; omega)
  · intro j hj
    match j, hj with
    | 0, _ => simpa using f0
    | (j + 1), h => exact absurd h (by simp only [List.length_cons, List.length_nil]; omega)
  · intro v hv
    simp at hv
    first | (subst hv; rfl) | (rcases hv with rfl | rfl <;> rfl) | (rcases hv with rfl | rfl | rfl <;> rfl) | (rcases hv with rfl | rfl | rfl | rfl <;> rfl)
theorem copy2 (W : World) (g b off cap : Nat) (v0 v1 : Int) (h0 : W.cell? ⟨b, off, none⟩ = some (.int .u64 v0)) (h1 : W.cell? ⟨b, off + 1, none⟩ = some (.int .u64 v1)) (c0 : (W.cell? ⟨g, 4, none⟩).isSome = true) (f0 : W.frozen? ⟨g, 4, none⟩ = false) (c1 : (W.cell? ⟨g, 5, none⟩).isSome = true) (f1 : W.frozen? ⟨g, 5, none⟩ = false) :
    Sem.run Tryz.prog (Builtin.copy_ #[30, 30] 3 #[.slice (some ⟨g, 4, none⟩) 4 4, .slice (some ⟨b, off, none⟩) 2 cap]) W = .ok (.int .i64 2) ((W.setCell ⟨g, 4, none⟩ (.int .u64 v0)).setCell ⟨g, 5, none⟩ (.int .u64 v1)) := by
  have := run_copy_cells (P := Tryz.prog) W 30 30 3 23 g 4 4 4 ⟨b, off, none⟩ 2 cap [.int .u64 v0, .int .u64 v1] Tryz.underlying30 (by kernel_rfl) rfl ?_ ?_ ?_ ?_
  · exact this
  · intro j v
    match j, v with
    | 0, _ => intro h; cases h; simpa [Addr.add] using h0
    | 1, _ => intro h; cases h; simpa [Addr.add] using h1
    | (j + 2), _ => intro h; simp at h
  · intro j hj
    match j, hj with
    | 0, _ => simpa using c0
    | 1, _ => simpa using c1
    | (j + 2), h => exact absurd h (by simp only [List.length_cons, List.length_nil]; omega)
  · intro j hj
    match j, hj with
    | 0, _ => simpa using f0
    | 1, _ => simpa using f1
    | (j + 2), h => exact absurd h (by simp only [List.length_cons, List.length_nil]; omega)
  · intro v hv
    simp at hv
    first | (subst hv; rfl) | (rcases hv with rfl | rfl <;> rfl) | (rcases hv with rfl | rfl | rfl <;> rfl) | (rcases hv with rfl | rfl | rfl | rfl <;> rfl)
theorem copy3 (W : World) (g b off cap : Nat) (v0 v1 v2 : Int) (h0 : W.cell? ⟨b, off, none⟩ = some (.int .u64 v0)) (h1 : W.cell? ⟨b, off + 1, none⟩ = some (.int .u64 v1)) (h2 : W.cell? ⟨b, off + 2, none⟩ = some (.int .u64 v2)) (c0 : (W.cell? ⟨g, 4, none⟩).isSome = true) (f0 : W.frozen? ⟨g, 4, none⟩ = false) (c1 : (W.cell? ⟨g, 5, none⟩).isSome = true) (f1 : W.frozen? ⟨g, 5, none⟩ = false) (c2 : (W.cell? ⟨g, 6, none⟩).isSome = true) (f2 : W.frozen? ⟨g, 6, none⟩ = false) :
    Sem.run Tryz.prog (Builtin.copy_ #[30, 30] 3 #[.slice (some ⟨g, 4, none⟩) 4 4, .slice (some ⟨b, off, none⟩) 3 cap]) W = .ok (.int .i64 3) (((W.setCell ⟨g, 4, none⟩ (.int .u64 v0)).setCell ⟨g, 5, none⟩ (.int .u64 v1)).setCell ⟨g, 6, none⟩ (.int .u64 v2)) := by
  have := run_copy_cells (P := Tryz.prog) W 30 30 3 23 g 4 4 4 ⟨b, off, none⟩ 3 cap [.int .u64 v0, .int .u64 v1, .int .u64 v2] Tryz.underlying30 (by kernel_rfl) rfl ?_ ?_ ?_ ?_
  · exact this
  · intro j v
    match j, v with
    | 0, _ => intro h; cases h; simpa [Addr.add] using h0
    | 1, _ => intro h; cases h; simpa [Addr.add] using h1
    | 2, _ => intro h; cases h; simpa [Addr.add] using h2
    | (j + 3), _ => intro h; simp at h
  · intro j hj
    match j, hj with
    | 0, _ => simpa using c0
    | 1, _ => simpa using c1
    | 2, _ => simpa using c2
    | (j + 3), h => exact absurd h (by simp only [List.length_cons, List.length_nil]; omega)
  · intro j hj
    match j, hj with
    | 0, _ => simpa using f0
    | 1, _ => simpa using f1
    | 2, _ => simpa using f2
    | (j + 3), h => exact absurd h (by simp only [List.length_cons, List.length_nil]; omega)
  · intro v hv
    simp at hv
    first | (subst hv; rfl) | (rcases hv with rfl | rfl <;> rfl) | (rcases hv with rfl | rfl | rfl <;> rfl) | (rcases hv with rfl | rfl | rfl | rfl <;> rfl)
theorem copy4 (W : World) (g b off cap : Nat) (v0 v1 v2 v3 : Int) (h0 : W.cell? ⟨b, off, none⟩ = some (.int .u64 v0)) (h1 : W.cell? ⟨b, off + 1, none⟩ = some (.int .u64 v1)) (h2 : W.cell? ⟨b, off + 2, none⟩ = some (.int .u64 v2)) (h3 : W.cell? ⟨b, off + 3, none⟩ = some (.int .u64 v3)) (c0 : (W.cell? ⟨g, 4, none⟩).isSome = true) (f0 : W.frozen? ⟨g, 4, none⟩ = false) (c1 : (W.cell? ⟨g, 5, none⟩).isSome = true) (f1 : W.frozen? ⟨g, 5, none⟩ = false) (c2 : (W.cell? ⟨g, 6, none⟩).isSome = true) (f2 : W.frozen? ⟨g, 6, none⟩ = false) (c3 : (W.cell? ⟨g, 7, none⟩).isSome = true) (f3 : W.frozen? ⟨g, 7, none⟩ = false) :
    Sem.run Tryz.prog (Builtin.copy_ #[30, 30] 3 #[.slice (some ⟨g, 4, none⟩) 4 4, .slice (some ⟨b, off, none⟩) 4 cap]) W = .ok (.int .i64 4) ((((W.setCell ⟨g, 4, none⟩ (.int .u64 v0)).setCell ⟨g, 5, none⟩ (.int .u64 v1)).setCell ⟨g, 6, none⟩ (.int .u64 v2)).setCell ⟨g, 7, none⟩ (.int .u64 v3)) := by
  have := run_copy_cells (P := Tryz.prog) W 30 30 3 23 g 4 4 4 ⟨b, off, none⟩ 4 cap [.int .u64 v0, .int .u64 v1, .int .u64 v2, .int .u64 v3] Tryz.underlying30 (by kernel_rfl) rfl ?_ ?_ ?_ ?_
  · exact this
  · intro j v
    match j, v with
    | 0, _ => intro h; cases h; simpa [Addr.add] using h0
    | 1, _ => intro h; cases h; simpa [Addr.add] using h1
    | 2, _ => intro h; cases h; simpa [Addr.add] using h2
    | 3, _ => intro h; cases h; simpa [Addr.add] using h3
    | (j + 4), _ => intro h; simp at h
  · intro j hj
    match j, hj with
    | 0, _ => simpa using c0
    | 1, _ => simpa using c1
    | 2, _ => simpa using c2
    | 3, _ => simpa using c3
    | (j + 4), h => exact absurd h (by simp only [List.length_cons, List.length_nil]; omega)
  · intro j hj
    match j, hj with
    | 0, _ => simpa using f0
    | 1, _ => simpa using f1
    | 2, _ => simpa using f2
    | 3, _ => simpa using f3
    | (j + 4), h => exact absurd h (by simp only [List.length_cons, List.length_nil]; omega)
  · intro v hv
    simp at hv
    first | (subst hv; rfl) | (rcases hv with rfl | rfl <;> rfl) | (rcases hv with rfl | rfl | rfl <;> rfl) | (rcases hv with rfl | rfl | rfl | rfl <;> rfl)
attribute [local irreducible] W4
section
variable (n : Int) (nm : ByteArray) (wd : Int) (f e : Nat) (l m : Int) (s : Bool) (x fl E : Int) (R : Nat) (z : Nat → Int) (w : World) (hT : Tab w)
include hT
set_option maxHeartbeats 1000000 in
theorem fin_n 
    (c56 : ∀ W, Tab W → Calls Tryz.prog 48 #[.int .i64 n, .agg #[.int .i64 1, .bool s, .bool false, .int .i64 x, .int .u64 0, .int .u64 0, .int .u64 0, .int .u64 0]] W fun r w' => r = .returned (.tuple #[A4 R, .int .i64 E]) ∧ Below W.heap.size W w') :
    Calls Tryz.prog 56 #[DI n nm wd f e l m, .bool s, .slice none 0 0, .int .i64 x, .int .i64 fl] w fun r w' => r = .returned (.tuple #[A4 R, .int .i64 fl, .int .i64 E]) ∧ Below w.heap.size w w' := by
  have hsm := cell_set_map
  skip
  have hcp := copy0
  go_enter Tryz.func56, Tryz.ntmps56
  go_wp2_with (go_at_call 48; refine (c56 _ (hT.go bgo)).mono ?_; rintro r w1 ⟨rfl, hb1⟩; obtain ⟨hc1, hf1⟩ := bcell hb1; have hz1_0 : w.heap.size < w1.heap.size := lt_below hb1 ltg; have hl1_0 := Nat.le_of_lt hz1_0; have hz1_1 : w.heap.size + 1 < w1.heap.size := lt_below hb1 ltg; have hl1_1 := Nat.le_of_lt hz1_1; have hz1_2 : w.heap.size + 2 < w1.heap.size := lt_below hb1 ltg; have hl1_2 := Nat.le_of_lt hz1_2; have hz1_3 : w.heap.size + 1 + 1 < w1.heap.size := lt_below hb1 ltg; have hl1_3 := Nat.le_of_lt hz1_3; have hA1 := bnext (w0 := w) bgo hb1; have hs1 := hA1.size; clear hb1)
  exact bodyPost_ret (v := .tuple #[A4 R, .int .i64 fl, .int .i64 E]) (by simp only [results, Tryz.results56]; go_simp) rfl ⟨rfl, bgo⟩
set_option maxHeartbeats 1000000 in
theorem fin_0 (b off cap : Nat) (hb : b < w.heap.size) 
    (c56 : ∀ W, Tab W → Calls Tryz.prog 48 #[.int .i64 n, .agg #[.int .i64 1, .bool s, .bool false, .int .i64 x, .int .u64 0, .int .u64 0, .int .u64 0, .int .u64 0]] W fun r w' => r = .returned (.tuple #[A4 R, .int .i64 E]) ∧ Below W.heap.size W w') :
    Calls Tryz.prog 56 #[DI n nm wd f e l m, .bool s, .slice (some ⟨b, off, none⟩) 0 cap, .int .i64 x, .int .i64 fl] w fun r w' => r = .returned (.tuple #[A4 R, .int .i64 fl, .int .i64 E]) ∧ Below w.heap.size w w' := by
  have hsm := cell_set_map
  skip
  have hcp := copy0
  go_enter Tryz.func56, Tryz.ntmps56
  go_wp2_with (go_at_call 48; refine (c56 _ (hT.go bgo)).mono ?_; rintro r w1 ⟨rfl, hb1⟩; obtain ⟨hc1, hf1⟩ := bcell hb1; have hz1_0 : w.heap.size < w1.heap.size := lt_below hb1 ltg; have hl1_0 := Nat.le_of_lt hz1_0; have hz1_1 : w.heap.size + 1 < w1.heap.size := lt_below hb1 ltg; have hl1_1 := Nat.le_of_lt hz1_1; have hz1_2 : w.heap.size + 2 < w1.heap.size := lt_below hb1 ltg; have hl1_2 := Nat.le_of_lt hz1_2; have hz1_3 : w.heap.size + 1 + 1 < w1.heap.size := lt_below hb1 ltg; have hl1_3 := Nat.le_of_lt hz1_3; have hA1 := bnext (w0 := w) bgo hb1; have hs1 := hA1.size; clear hb1)
  exact bodyPost_ret (v := .tuple #[A4 R, .int .i64 fl, .int .i64 E]) (by simp only [results, Tryz.results56]; go_simp) rfl ⟨rfl, bgo⟩
set_option maxHeartbeats 1000000 in
theorem fin_1 (b off cap : Nat) (hb : b < w.heap.size) (h0 : w.cell? ⟨b, off + 0, none⟩ = some (.int .u64 (z 0)))
    (c56 : ∀ W, Tab W → Calls Tryz.prog 48 #[.int .i64 n, .agg #[.int .i64 1, .bool s, .bool false, .int .i64 x, .int .u64 (z 0), .int .u64 0, .int .u64 0, .int .u64 0]] W fun r w' => r = .returned (.tuple #[A4 R, .int .i64 E]) ∧ Below W.heap.size W w') :
    Calls Tryz.prog 56 #[DI n nm wd f e l m, .bool s, .slice (some ⟨b, off, none⟩) 1 cap, .int .i64 x, .int .i64 fl] w fun r w' => r = .returned (.tuple #[A4 R, .int .i64 fl, .int .i64 E]) ∧ Below w.heap.size w w' := by
  have hsm := cell_set_map
  simp only [Nat.add_zero] at h0
  have hcp := copy1
  have e0 : b ≤ w.heap.size := by omega
  have e1 : b < w.heap.size + 1 := by omega
  have e2 : b < w.heap.size + 1 + 1 := by omega
  have e3 : b < w.heap.size + 2 := by omega
  have e4 : b ≤ w.heap.size + 1 := by omega
  have n0 : ¬ b = w.heap.size := by omega
  have n1 : ¬ b = w.heap.size + 1 := by omega
  have n2 : ¬ b = w.heap.size + 1 + 1 := by omega
  go_enter Tryz.func56, Tryz.ntmps56
  go_wp2_with (go_at_call 48; refine (c56 _ (hT.go bgo)).mono ?_; rintro r w1 ⟨rfl, hb1⟩; obtain ⟨hc1, hf1⟩ := bcell hb1; have hz1_0 : w.heap.size < w1.heap.size := lt_below hb1 ltg; have hl1_0 := Nat.le_of_lt hz1_0; have hz1_1 : w.heap.size + 1 < w1.heap.size := lt_below hb1 ltg; have hl1_1 := Nat.le_of_lt hz1_1; have hz1_2 : w.heap.size + 2 < w1.heap.size := lt_below hb1 ltg; have hl1_2 := Nat.le_of_lt hz1_2; have hz1_3 : w.heap.size + 1 + 1 < w1.heap.size := lt_below hb1 ltg; have hl1_3 := Nat.le_of_lt hz1_3; have hA1 := bnext (w0 := w) bgo hb1; have hs1 := hA1.size; clear hb1)
  exact bodyPost_ret (v := .tuple #[A4 R, .int .i64 fl, .int .i64 E]) (by simp only [results, Tryz.results56]; go_simp) rfl ⟨rfl, bgo⟩
set_option maxHeartbeats 1000000 in
theorem fin_2 (b off cap : Nat) (hb : b < w.heap.size) (h0 : w.cell? ⟨b, off + 0, none⟩ = some (.int .u64 (z 0))) (h1 : w.cell? ⟨b, off + 1, none⟩ = some (.int .u64 (z 1)))
    (c56 : ∀ W, Tab W → Calls Tryz.prog 48 #[.int .i64 n, .agg #[.int .i64 1, .bool s, .bool false, .int .i64 x, .int .u64 (z 0), .int .u64 (z 1), .int .u64 0, .int .u64 0]] W fun r w' => r = .returned (.tuple #[A4 R, .int .i64 E]) ∧ Below W.heap.size W w') :
    Calls Tryz.prog 56 #[DI n nm wd f e l m, .bool s, .slice (some ⟨b, off, none⟩) 2 cap, .int .i64 x, .int .i64 fl] w fun r w' => r = .returned (.tuple #[A4 R, .int .i64 fl, .int .i64 E]) ∧ Below w.heap.size w w' := by
  have hsm := cell_set_map
  simp only [Nat.add_zero] at h0
  have hcp := copy2
  have e0 : b ≤ w.heap.size := by omega
  have e1 : b < w.heap.size + 1 := by omega
  have e2 : b < w.heap.size + 1 + 1 := by omega
  have e3 : b < w.heap.size + 2 := by omega
  have e4 : b ≤ w.heap.size + 1 := by omega
  have n0 : ¬ b = w.heap.size := by omega
  have n1 : ¬ b = w.heap.size + 1 := by omega
  have n2 : ¬ b = w.heap.size + 1 + 1 := by omega
  go_enter Tryz.func56, Tryz.ntmps56
  go_wp2_with (go_at_call 48; refine (c56 _ (hT.go bgo)).mono ?_; rintro r w1 ⟨rfl, hb1⟩; obtain ⟨hc1, hf1⟩ := bcell hb1; have hz1_0 : w.heap.size < w1.heap.size := lt_below hb1 ltg; have hl1_0 := Nat.le_of_lt hz1_0; have hz1_1 : w.heap.size + 1 < w1.heap.size := lt_below hb1 ltg; have hl1_1 := Nat.le_of_lt hz1_1; have hz1_2 : w.heap.size + 2 < w1.heap.size := lt_below hb1 ltg; have hl1_2 := Nat.le_of_lt hz1_2; have hz1_3 : w.heap.size + 1 + 1 < w1.heap.size := lt_below hb1 ltg; have hl1_3 := Nat.le_of_lt hz1_3; have hA1 := bnext (w0 := w) bgo hb1; have hs1 := hA1.size; clear hb1)
  exact bodyPost_ret (v := .tuple #[A4 R, .int .i64 fl, .int .i64 E]) (by simp only [results, Tryz.results56]; go_simp) rfl ⟨rfl, bgo⟩
set_option maxHeartbeats 1000000 in
theorem fin_3 (b off cap : Nat) (hb : b < w.heap.size) (h0 : w.cell? ⟨b, off + 0, none⟩ = some (.int .u64 (z 0))) (h1 : w.cell? ⟨b, off + 1, none⟩ = some (.int .u64 (z 1))) (h2 : w.cell? ⟨b, off + 2, none⟩ = some (.int .u64 (z 2)))
    (c56 : ∀ W, Tab W → Calls Tryz.prog 48 #[.int .i64 n, .agg #[.int .i64 1, .bool s, .bool false, .int .i64 x, .int .u64 (z 0), .int .u64 (z 1), .int .u64 (z 2), .int .u64 0]] W fun r w' => r = .returned (.tuple #[A4 R, .int .i64 E]) ∧ Below W.heap.size W w') :
    Calls Tryz.prog 56 #[DI n nm wd f e l m, .bool s, .slice (some ⟨b, off, none⟩) 3 cap, .int .i64 x, .int .i64 fl] w fun r w' => r = .returned (.tuple #[A4 R, .int .i64 fl, .int .i64 E]) ∧ Below w.heap.size w w' := by
  have hsm := cell_set_map
  simp only [Nat.add_zero] at h0
  have hcp := copy3
  have e0 : b ≤ w.heap.size := by omega
  have e1 : b < w.heap.size + 1 := by omega
  have e2 : b < w.heap.size + 1 + 1 := by omega
  have e3 : b < w.heap.size + 2 := by omega
  have e4 : b ≤ w.heap.size + 1 := by omega
  have n0 : ¬ b = w.heap.size := by omega
  have n1 : ¬ b = w.heap.size + 1 := by omega
  have n2 : ¬ b = w.heap.size + 1 + 1 := by omega
  go_enter Tryz.func56, Tryz.ntmps56
  go_wp2_with (go_at_call 48; refine (c56 _ (hT.go bgo)).mono ?_; rintro r w1 ⟨rfl, hb1⟩; obtain ⟨hc1, hf1⟩ := bcell hb1; have hz1_0 : w.heap.size < w1.heap.size := lt_below hb1 ltg; have hl1_0 := Nat.le_of_lt hz1_0; have hz1_1 : w.heap.size + 1 < w1.heap.size := lt_below hb1 ltg; have hl1_1 := Nat.le_of_lt hz1_1; have hz1_2 : w.heap.size + 2 < w1.heap.size := lt_below hb1 ltg; have hl1_2 := Nat.le_of_lt hz1_2; have hz1_3 : w.heap.size + 1 + 1 < w1.heap.size := lt_below hb1 ltg; have hl1_3 := Nat.le_of_lt hz1_3; have hA1 := bnext (w0 := w) bgo hb1; have hs1 := hA1.size; clear hb1)
  exact bodyPost_ret (v := .tuple #[A4 R, .int .i64 fl, .int .i64 E]) (by simp only [results, Tryz.results56]; go_simp) rfl ⟨rfl, bgo⟩
set_option maxHeartbeats 1000000 in
theorem fin_4 (b off cap : Nat) (hb : b < w.heap.size) (h0 : w.cell? ⟨b, off + 0, none⟩ = some (.int .u64 (z 0))) (h1 : w.cell? ⟨b, off + 1, none⟩ = some (.int .u64 (z 1))) (h2 : w.cell? ⟨b, off + 2, none⟩ = some (.int .u64 (z 2))) (h3 : w.cell? ⟨b, off + 3, none⟩ = some (.int .u64 (z 3)))
    (c56 : ∀ W, Tab W → Calls Tryz.prog 48 #[.int .i64 n, .agg #[.int .i64 1, .bool s, .bool false, .int .i64 x, .int .u64 (z 0), .int .u64 (z 1), .int .u64 (z 2), .int .u64 (z 3)]] W fun r w' => r = .returned (.tuple #[A4 R, .int .i64 E]) ∧ Below W.heap.size W w') :
    Calls Tryz.prog 56 #[DI n nm wd f e l m, .bool s, .slice (some ⟨b, off, none⟩) 4 cap, .int .i64 x, .int .i64 fl] w fun r w' => r = .returned (.tuple #[A4 R, .int .i64 fl, .int .i64 E]) ∧ Below w.heap.size w w' := by
  have hsm := cell_set_map
  simp only [Nat.add_zero] at h0
  have hcp := copy4
  have e0 : b ≤ w.heap.size := by omega
  have e1 : b < w.heap.size + 1 := by omega
  have e2 : b < w.heap.size + 1 + 1 := by omega
  have e3 : b < w.heap.size + 2 := by omega
  have e4 : b ≤ w.heap.size + 1 := by omega
  have n0 : ¬ b = w.heap.size := by omega
  have n1 : ¬ b = w.heap.size + 1 := by omega
  have n2 : ¬ b = w.heap.size + 1 + 1 := by omega
  go_enter Tryz.func56, Tryz.ntmps56
  go_wp2_with (go_at_call 48; refine (c56 _ (hT.go bgo)).mono ?_; rintro r w1 ⟨rfl, hb1⟩; obtain ⟨hc1, hf1⟩ := bcell hb1; have hz1_0 : w.heap.size < w1.heap.size := lt_below hb1 ltg; have hl1_0 := Nat.le_of_lt hz1_0; have hz1_1 : w.heap.size + 1 < w1.heap.size := lt_below hb1 ltg; have hl1_1 := Nat.le_of_lt hz1_1; have hz1_2 : w.heap.size + 2 < w1.heap.size := lt_below hb1 ltg; have hl1_2 := Nat.le_of_lt hz1_2; have hz1_3 : w.heap.size + 1 + 1 < w1.heap.size := lt_below hb1 ltg; have hl1_3 := Nat.le_of_lt hz1_3; have hA1 := bnext (w0 := w) bgo hb1; have hs1 := hA1.size; clear hb1)
  exact bodyPost_ret (v := .tuple #[A4 R, .int .i64 fl, .int .i64 E]) (by simp only [results, Tryz.results56]; go_simp) rfl ⟨rfl, bgo⟩
end
end
section
set_option maxHeartbeats 1000000 in
theorem lay_any (B A at_ K : Nat) (v : Value) (w : World) (hB : B < 2 ^ 256) (hK : K < 900) (ha : at_ ≤ 600) (h : NV K A v w) :
    Calls Tryz.prog 65 #[A4 B, v, .int .i64 at_] w fun e w' => e = .returned (A4 (B + A * 2 ^ at_)) ∧ Below w.heap.size w w' := by
  have c52 : ∀ W, Below w.heap.size w W → Calls Tryz.prog 71 #[v, .int .i64 at_] W fun e w' => ∃ v', e = .returned v' ∧ NV (K + 11) (A * 2 ^ at_) v' w' ∧ Below W.heap.size W w' := fun W hW => rleft_nv at_ (by omega) ha (h.next hW)
  clear h
  go_enter Tryz.func65, Tryz.ntmps65
  go_wp2
  go_region_with (first
    | (go_at_call 71; refine (c52 _ bgo).mono ?_; rintro e w1 ⟨v1, rfl, hl, hb1⟩; have hbx := box_nv (w0 := w) (B := B) (t := 25) hB (bnext bgo hb1); obtain ⟨hc1, hf1⟩ := bcell hb1; have hz1_0 : w.heap.size < w1.heap.size := lt_below hb1 ltg; have hl1_0 := Nat.le_of_lt hz1_0; have hz1_1 : w.heap.size + 1 < w1.heap.size := lt_below hb1 ltg; have hl1_1 := Nat.le_of_lt hz1_1; have hA1 := bnext (w0 := w) bgo hb1; have hs1 := hA1.size; clear hb1)
    | (go_at_call 73; refine (radd_nv (by decide) (by omega) hbx hl).mono ?_; rintro e w2 ⟨v2, rfl, hs, hb2⟩; obtain ⟨hc2, hf2⟩ := bcell hb2; have hz2_0 : w.heap.size < w2.heap.size := lt_below hb2 ltg; have hl2_0 := Nat.le_of_lt hz2_0; have hz2_1 : w.heap.size + 1 < w2.heap.size := lt_below hb2 ltg; have hl2_1 := Nat.le_of_lt hz2_1; have hA2 := bnext (w0 := w) bgo hb2; have hs2 := hA2.size; clear hb2)
    | (go_at_call 37; refine (bits_nv hs).mono ?_; rintro e w3 ⟨rfl, hb3⟩; obtain ⟨hc3, hf3⟩ := bcell hb3; have hz3_0 : w.heap.size < w3.heap.size := lt_below hb3 ltg; have hl3_0 := Nat.le_of_lt hz3_0; have hz3_1 : w.heap.size + 1 < w3.heap.size := lt_below hb3 ltg; have hl3_1 := Nat.le_of_lt hz3_1; have hA3 := bnext (w0 := w) bgo hb3; have hs3 := hA3.size; clear hb3))
  have hsm := cell_set_map
  go_wp2
  exact bodyPost_ret (v := A4 (B + A * 2 ^ at_)) (by simp only [results, Tryz.results65]; go_simp) rfl ⟨rfl, bgo⟩
set_option maxHeartbeats 400000 in
theorem rbinary_any (n : Int) (w : World) : Calls Tryz.prog 14 #[.int .i64 n] w fun e w' => e = .returned (.bool (decide (binN n))) ∧ w' = w := by
  by_cases h1 : 1 ≤ n
  · by_cases h2 : n ≤ 6
    · rw [decide_eq_true (show binN n from ⟨h1, h2⟩)]
      go_enter Tryz.func14, Tryz.ntmps14
      go_wp2
      go_ret
      exact ⟨rfl, rfl⟩
    · rw [decide_eq_false (show ¬ binN n from fun h => h2 h.2)]
      go_enter Tryz.func14, Tryz.ntmps14
      go_wp2
      go_ret
      exact ⟨rfl, rfl⟩
  · rw [decide_eq_false (show ¬ binN n from fun h => h1 h.1)]
    go_enter Tryz.func14, Tryz.ntmps14
    go_wp2
    go_ret
    exact ⟨rfl, rfl⟩
end
section
attribute [local irreducible] W4

abbrev IV (n : Int) (nm : ByteArray) (wd : Int) (f e : Nat) (l m : Int) : Value := .agg #[.int .i64 n, .string nm, .int .i64 2, .int .i64 wd, .int .i64 ((f : Int) + 1), .int .i64 e, .int .i64 l, .int .i64 m, .int .i64 ((f : Int) - 1), .bool false]
theorem dat_num {w0 w : World} {c : Int} {s g : Bool} {x : Int} {k : Nat} (hb : Below (w0.alloc (.cells #[.int .i64 c, .bool s, .bool g, .int .i64 x, .int .u64 (W4 k 0), .int .u64 (W4 k 1), .int .u64 (W4 k 2), .int .u64 (W4 k 3)] 71)).heap.size (w0.alloc (.cells #[.int .i64 c, .bool s, .bool g, .int .i64 x, .int .u64 (W4 k 0), .int .u64 (W4 k 1), .int .u64 (W4 k 2), .int .u64 (W4 k 3)] 71)) w) :
    Num w (some ⟨w0.heap.size, 4, none⟩) 4 4 (lowW (W4 k) 4) := by
  refine ⟨Nat.le_refl _, by unfold maxLen; omega, lowW_words (W4_words k) 4, fun i hi => lowW_ge hi, Or.inr ⟨_, _, rfl, lt_below hb (by simp), fun i hi => ?_⟩⟩
  rw [lowW_lt hi, (hb.cell (p := ⟨w0.heap.size, 4 + i, none⟩) (by simp)), World.cell?_alloc_new]
  have : i = 0 ∨ i = 1 ∨ i = 2 ∨ i = 3 := by omega
  rcases this with rfl | rfl | rfl | rfl <;> rfl
section
variable (n : Int) (nm : ByteArray) (wd : Int) (f e : Nat) (l m : Int) (c x : Int) (s g : Bool) (k : Nat) (L : Int) (w : World) (hf : 2 ≤ f ∧ f ≤ 240)
  (c38 : ∀ W, Num W (some ⟨w.heap.size + 1, 4, none⟩) 4 4 (lowW (W4 k) 4) → Calls Tryz.prog 33 #[.slice (some ⟨w.heap.size + 1, 4, none⟩) 4 4] W fun e w' => e = .returned (.int .i64 L) ∧ W = w')
include hf c38
set_option maxHeartbeats 1000000 in
theorem is1_g  : Calls Tryz.prog 64 #[IV n nm wd f e l m, DV 1 s true x k] w fun r w' => r = .returned (.bool false) ∧ Below w.heap.size w w' := by
  have hN := dat_num (w0 := w.alloc (.cells #[.int .i64 n, .string nm, .int .i64 2, .int .i64 wd, .int .i64 ((f : Int) + 1), .int .i64 e, .int .i64 l, .int .i64 m, .int .i64 ((f : Int) - 1), .bool false] 65)) (c := 1) (s := s) (g := true) (x := x) (k := k) (Below.refl _ _)
  rw [World.size_alloc] at hN
  have cl := c38 _ hN
  clear hN c38
  go_enter Tryz.func64, Tryz.ntmps64
  go_wp2_with (go_at_call 33; refine cl.mono ?_; rintro e w1 ⟨rfl, rfl⟩)
  go_ret
  exact ⟨by first | rfl | simp [*], bgo⟩
set_option maxHeartbeats 1000000 in
theorem is1_l (h1 : ¬ L ≤ (f : Int) + 1) : Calls Tryz.prog 64 #[IV n nm wd f e l m, DV 1 s false x k] w fun r w' => r = .returned (.bool false) ∧ Below w.heap.size w w' := by
  have hN := dat_num (w0 := w.alloc (.cells #[.int .i64 n, .string nm, .int .i64 2, .int .i64 wd, .int .i64 ((f : Int) + 1), .int .i64 e, .int .i64 l, .int .i64 m, .int .i64 ((f : Int) - 1), .bool false] 65)) (c := 1) (s := s) (g := false) (x := x) (k := k) (Below.refl _ _)
  rw [World.size_alloc] at hN
  have cl := c38 _ hN
  clear hN c38
  go_enter Tryz.func64, Tryz.ntmps64
  go_wp2_with (go_at_call 33; refine cl.mono ?_; rintro e w1 ⟨rfl, rfl⟩)
  go_ret
  exact ⟨by first | rfl | simp [*], bgo⟩
set_option maxHeartbeats 1000000 in
theorem is1_x (h1 : L ≤ (f : Int) + 1) (h2 : ¬ l ≤ x) : Calls Tryz.prog 64 #[IV n nm wd f e l m, DV 1 s false x k] w fun r w' => r = .returned (.bool false) ∧ Below w.heap.size w w' := by
  have hN := dat_num (w0 := w.alloc (.cells #[.int .i64 n, .string nm, .int .i64 2, .int .i64 wd, .int .i64 ((f : Int) + 1), .int .i64 e, .int .i64 l, .int .i64 m, .int .i64 ((f : Int) - 1), .bool false] 65)) (c := 1) (s := s) (g := false) (x := x) (k := k) (Below.refl _ _)
  rw [World.size_alloc] at hN
  have cl := c38 _ hN
  clear hN c38
  go_enter Tryz.func64, Tryz.ntmps64
  go_wp2_with (go_at_call 33; refine cl.mono ?_; rintro e w1 ⟨rfl, rfl⟩)
  go_ret
  exact ⟨by first | rfl | simp [*], bgo⟩
set_option maxHeartbeats 1000000 in
theorem is1_m (h1 : L ≤ (f : Int) + 1) (h2 : l ≤ x) (h3 : ¬ x ≤ m) : Calls Tryz.prog 64 #[IV n nm wd f e l m, DV 1 s false x k] w fun r w' => r = .returned (.bool false) ∧ Below w.heap.size w w' := by
  have hN := dat_num (w0 := w.alloc (.cells #[.int .i64 n, .string nm, .int .i64 2, .int .i64 wd, .int .i64 ((f : Int) + 1), .int .i64 e, .int .i64 l, .int .i64 m, .int .i64 ((f : Int) - 1), .bool false] 65)) (c := 1) (s := s) (g := false) (x := x) (k := k) (Below.refl _ _)
  rw [World.size_alloc] at hN
  have cl := c38 _ hN
  clear hN c38
  go_enter Tryz.func64, Tryz.ntmps64
  go_wp2_with (go_at_call 33; refine cl.mono ?_; rintro e w1 ⟨rfl, rfl⟩)
  go_ret
  exact ⟨by first | rfl | simp [*], bgo⟩
set_option maxHeartbeats 1000000 in
theorem is1_n (h1 : L ≤ (f : Int) + 1) (h2 : l ≤ x) (h3 : x ≤ m) (h4 : (L == (f : Int) + 1) = false) (h5 : (x == l) = false) : Calls Tryz.prog 64 #[IV n nm wd f e l m, DV 1 s false x k] w fun r w' => r = .returned (.bool false) ∧ Below w.heap.size w w' := by
  have hN := dat_num (w0 := w.alloc (.cells #[.int .i64 n, .string nm, .int .i64 2, .int .i64 wd, .int .i64 ((f : Int) + 1), .int .i64 e, .int .i64 l, .int .i64 m, .int .i64 ((f : Int) - 1), .bool false] 65)) (c := 1) (s := s) (g := false) (x := x) (k := k) (Below.refl _ _)
  rw [World.size_alloc] at hN
  have cl := c38 _ hN
  clear hN c38
  go_enter Tryz.func64, Tryz.ntmps64
  go_wp2_with (go_at_call 33; refine cl.mono ?_; rintro e w1 ⟨rfl, rfl⟩)
  go_ret
  exact ⟨by first | rfl | simp [*], bgo⟩
set_option maxHeartbeats 1000000 in
theorem is1_a (h1 : L ≤ (f : Int) + 1) (h2 : l ≤ x) (h3 : x ≤ m) (h4 : (L == (f : Int) + 1) = true) : Calls Tryz.prog 64 #[IV n nm wd f e l m, DV 1 s false x k] w fun r w' => r = .returned (.bool true) ∧ Below w.heap.size w w' := by
  have hN := dat_num (w0 := w.alloc (.cells #[.int .i64 n, .string nm, .int .i64 2, .int .i64 wd, .int .i64 ((f : Int) + 1), .int .i64 e, .int .i64 l, .int .i64 m, .int .i64 ((f : Int) - 1), .bool false] 65)) (c := 1) (s := s) (g := false) (x := x) (k := k) (Below.refl _ _)
  rw [World.size_alloc] at hN
  have cl := c38 _ hN
  clear hN c38
  go_enter Tryz.func64, Tryz.ntmps64
  go_wp2_with (go_at_call 33; refine cl.mono ?_; rintro e w1 ⟨rfl, rfl⟩)
  go_ret
  exact ⟨by first | rfl | simp [*], bgo⟩
set_option maxHeartbeats 1000000 in
theorem is1_b (h1 : L ≤ (f : Int) + 1) (h2 : l ≤ x) (h3 : x ≤ m) (h4 : (L == (f : Int) + 1) = false) (h5 : (x == l) = true) : Calls Tryz.prog 64 #[IV n nm wd f e l m, DV 1 s false x k] w fun r w' => r = .returned (.bool true) ∧ Below w.heap.size w w' := by
  have hN := dat_num (w0 := w.alloc (.cells #[.int .i64 n, .string nm, .int .i64 2, .int .i64 wd, .int .i64 ((f : Int) + 1), .int .i64 e, .int .i64 l, .int .i64 m, .int .i64 ((f : Int) - 1), .bool false] 65)) (c := 1) (s := s) (g := false) (x := x) (k := k) (Below.refl _ _)
  rw [World.size_alloc] at hN
  have cl := c38 _ hN
  clear hN c38
  go_enter Tryz.func64, Tryz.ntmps64
  go_wp2_with (go_at_call 33; refine cl.mono ?_; rintro e w1 ⟨rfl, rfl⟩)
  go_ret
  exact ⟨by first | rfl | simp [*], bgo⟩
set_option maxHeartbeats 1000000 in
theorem is2_g  : Calls Tryz.prog 64 #[IV n nm wd f e l m, DV 2 s true x k] w fun r w' => r = .returned (.bool false) ∧ Below w.heap.size w w' := by
  have hN := dat_num (w0 := w.alloc (.cells #[.int .i64 n, .string nm, .int .i64 2, .int .i64 wd, .int .i64 ((f : Int) + 1), .int .i64 e, .int .i64 l, .int .i64 m, .int .i64 ((f : Int) - 1), .bool false] 65)) (c := 2) (s := s) (g := true) (x := x) (k := k) (Below.refl _ _)
  rw [World.size_alloc] at hN
  have cl := c38 _ hN
  clear hN c38
  go_enter Tryz.func64, Tryz.ntmps64
  go_wp2_with (go_at_call 33; refine cl.mono ?_; rintro e w1 ⟨rfl, rfl⟩)
  go_ret
  exact ⟨by first | rfl | simp [*], bgo⟩
set_option maxHeartbeats 1000000 in
theorem is2_l (h1 : (L == 0) = false) : Calls Tryz.prog 64 #[IV n nm wd f e l m, DV 2 s false x k] w fun r w' => r = .returned (.bool false) ∧ Below w.heap.size w w' := by
  have hN := dat_num (w0 := w.alloc (.cells #[.int .i64 n, .string nm, .int .i64 2, .int .i64 wd, .int .i64 ((f : Int) + 1), .int .i64 e, .int .i64 l, .int .i64 m, .int .i64 ((f : Int) - 1), .bool false] 65)) (c := 2) (s := s) (g := false) (x := x) (k := k) (Below.refl _ _)
  rw [World.size_alloc] at hN
  have cl := c38 _ hN
  clear hN c38
  go_enter Tryz.func64, Tryz.ntmps64
  go_wp2_with (go_at_call 33; refine cl.mono ?_; rintro e w1 ⟨rfl, rfl⟩)
  go_ret
  exact ⟨by first | rfl | simp [*], bgo⟩
set_option maxHeartbeats 1000000 in
theorem is2_x (h1 : (L == 0) = true) (h2 : (x == 0) = false) : Calls Tryz.prog 64 #[IV n nm wd f e l m, DV 2 s false x k] w fun r w' => r = .returned (.bool false) ∧ Below w.heap.size w w' := by
  have hN := dat_num (w0 := w.alloc (.cells #[.int .i64 n, .string nm, .int .i64 2, .int .i64 wd, .int .i64 ((f : Int) + 1), .int .i64 e, .int .i64 l, .int .i64 m, .int .i64 ((f : Int) - 1), .bool false] 65)) (c := 2) (s := s) (g := false) (x := x) (k := k) (Below.refl _ _)
  rw [World.size_alloc] at hN
  have cl := c38 _ hN
  clear hN c38
  go_enter Tryz.func64, Tryz.ntmps64
  go_wp2_with (go_at_call 33; refine cl.mono ?_; rintro e w1 ⟨rfl, rfl⟩)
  go_ret
  exact ⟨by first | rfl | simp [*], bgo⟩
set_option maxHeartbeats 1000000 in
theorem is2_a (h1 : (L == 0) = true) (h2 : (x == 0) = true) : Calls Tryz.prog 64 #[IV n nm wd f e l m, DV 2 s false x k] w fun r w' => r = .returned (.bool true) ∧ Below w.heap.size w w' := by
  have hN := dat_num (w0 := w.alloc (.cells #[.int .i64 n, .string nm, .int .i64 2, .int .i64 wd, .int .i64 ((f : Int) + 1), .int .i64 e, .int .i64 l, .int .i64 m, .int .i64 ((f : Int) - 1), .bool false] 65)) (c := 2) (s := s) (g := false) (x := x) (k := k) (Below.refl _ _)
  rw [World.size_alloc] at hN
  have cl := c38 _ hN
  clear hN c38
  go_enter Tryz.func64, Tryz.ntmps64
  go_wp2_with (go_at_call 33; refine cl.mono ?_; rintro e w1 ⟨rfl, rfl⟩)
  go_ret
  exact ⟨by first | rfl | simp [*], bgo⟩
set_option maxHeartbeats 1000000 in
theorem is3_x (h2 : (x == 0) = false) : Calls Tryz.prog 64 #[IV n nm wd f e l m, DV 3 s g x k] w fun r w' => r = .returned (.bool false) ∧ Below w.heap.size w w' := by
  have hN := dat_num (w0 := w.alloc (.cells #[.int .i64 n, .string nm, .int .i64 2, .int .i64 wd, .int .i64 ((f : Int) + 1), .int .i64 e, .int .i64 l, .int .i64 m, .int .i64 ((f : Int) - 1), .bool false] 65)) (c := 3) (s := s) (g := g) (x := x) (k := k) (Below.refl _ _)
  rw [World.size_alloc] at hN
  have cl := c38 _ hN
  clear hN c38
  go_enter Tryz.func64, Tryz.ntmps64
  go_wp2_with (go_at_call 33; refine cl.mono ?_; rintro e w1 ⟨rfl, rfl⟩)
  go_ret
  exact ⟨by first | rfl | simp [*], bgo⟩
set_option maxHeartbeats 1000000 in
theorem is3_l (h2 : (x == 0) = true) (h1 : ¬ L ≤ (f : Int) - 1) : Calls Tryz.prog 64 #[IV n nm wd f e l m, DV 3 s g x k] w fun r w' => r = .returned (.bool false) ∧ Below w.heap.size w w' := by
  have hN := dat_num (w0 := w.alloc (.cells #[.int .i64 n, .string nm, .int .i64 2, .int .i64 wd, .int .i64 ((f : Int) + 1), .int .i64 e, .int .i64 l, .int .i64 m, .int .i64 ((f : Int) - 1), .bool false] 65)) (c := 3) (s := s) (g := g) (x := x) (k := k) (Below.refl _ _)
  rw [World.size_alloc] at hN
  have cl := c38 _ hN
  clear hN c38
  go_enter Tryz.func64, Tryz.ntmps64
  go_wp2_with (go_at_call 33; refine cl.mono ?_; rintro e w1 ⟨rfl, rfl⟩)
  go_ret
  exact ⟨by first | rfl | simp [*], bgo⟩
set_option maxHeartbeats 1000000 in
theorem is3_a (h2 : (x == 0) = true) (h1 : L ≤ (f : Int) - 1) (h3 : 0 < L) : Calls Tryz.prog 64 #[IV n nm wd f e l m, DV 3 s g x k] w fun r w' => r = .returned (.bool true) ∧ Below w.heap.size w w' := by
  have hN := dat_num (w0 := w.alloc (.cells #[.int .i64 n, .string nm, .int .i64 2, .int .i64 wd, .int .i64 ((f : Int) + 1), .int .i64 e, .int .i64 l, .int .i64 m, .int .i64 ((f : Int) - 1), .bool false] 65)) (c := 3) (s := s) (g := g) (x := x) (k := k) (Below.refl _ _)
  rw [World.size_alloc] at hN
  have cl := c38 _ hN
  clear hN c38
  go_enter Tryz.func64, Tryz.ntmps64
  go_wp2_with (go_at_call 33; refine cl.mono ?_; rintro e w1 ⟨rfl, rfl⟩)
  go_ret
  exact ⟨by first | rfl | simp [*], bgo⟩
set_option maxHeartbeats 1000000 in
theorem is3_q (h2 : (x == 0) = true) (h1 : L ≤ (f : Int) - 1) (h3 : ¬ 0 < L) : Calls Tryz.prog 64 #[IV n nm wd f e l m, DV 3 s false x k] w fun r w' => r = .returned (.bool true) ∧ Below w.heap.size w w' := by
  have hN := dat_num (w0 := w.alloc (.cells #[.int .i64 n, .string nm, .int .i64 2, .int .i64 wd, .int .i64 ((f : Int) + 1), .int .i64 e, .int .i64 l, .int .i64 m, .int .i64 ((f : Int) - 1), .bool false] 65)) (c := 3) (s := s) (g := false) (x := x) (k := k) (Below.refl _ _)
  rw [World.size_alloc] at hN
  have cl := c38 _ hN
  clear hN c38
  go_enter Tryz.func64, Tryz.ntmps64
  go_wp2_with (go_at_call 33; refine cl.mono ?_; rintro e w1 ⟨rfl, rfl⟩)
  go_ret
  exact ⟨by first | rfl | simp [*], bgo⟩
set_option maxHeartbeats 1000000 in
theorem is3_s (h2 : (x == 0) = true) (h1 : L ≤ (f : Int) - 1) (h3 : ¬ 0 < L) : Calls Tryz.prog 64 #[IV n nm wd f e l m, DV 3 s true x k] w fun r w' => r = .returned (.bool false) ∧ Below w.heap.size w w' := by
  have hN := dat_num (w0 := w.alloc (.cells #[.int .i64 n, .string nm, .int .i64 2, .int .i64 wd, .int .i64 ((f : Int) + 1), .int .i64 e, .int .i64 l, .int .i64 m, .int .i64 ((f : Int) - 1), .bool false] 65)) (c := 3) (s := s) (g := true) (x := x) (k := k) (Below.refl _ _)
  rw [World.size_alloc] at hN
  have cl := c38 _ hN
  clear hN c38
  go_enter Tryz.func64, Tryz.ntmps64
  go_wp2_with (go_at_call 33; refine cl.mono ?_; rintro e w1 ⟨rfl, rfl⟩)
  go_ret
  exact ⟨by first | rfl | simp [*], bgo⟩
set_option maxHeartbeats 1000000 in
theorem is_0 (h1 : (c == 1) = false) (h2 : (c == 2) = false) (h3 : (c == 3) = false) : Calls Tryz.prog 64 #[IV n nm wd f e l m, DV c s g x k] w fun r w' => r = .returned (.bool false) ∧ Below w.heap.size w w' := by
  have hN := dat_num (w0 := w.alloc (.cells #[.int .i64 n, .string nm, .int .i64 2, .int .i64 wd, .int .i64 ((f : Int) + 1), .int .i64 e, .int .i64 l, .int .i64 m, .int .i64 ((f : Int) - 1), .bool false] 65)) (c := c) (s := s) (g := g) (x := x) (k := k) (Below.refl _ _)
  rw [World.size_alloc] at hN
  have cl := c38 _ hN
  clear hN c38
  go_enter Tryz.func64, Tryz.ntmps64
  go_wp2_with (go_at_call 33; refine cl.mono ?_; rintro e w1 ⟨rfl, rfl⟩)
  go_ret
  exact ⟨by first | rfl | simp [*], bgo⟩
end
theorem ris_any (n : Int) (nm : ByteArray) (wd : Int) (f e : Nat) (l m : Int) (d : Dat) (w : World) (h : Fm f e l m) (hk : d.k < 2 ^ 256) :
    Calls Tryz.prog 64 #[IV n nm wd f e l m, d.v] w fun r w' => r = .returned (.bool (decide (isD f l m d))) ∧ Below w.heap.size w w' := by
  obtain ⟨c, s, g, x, k⟩ := d
  unfold Dat.v
  dsimp only at hk ⊢
  have hf : 2 ≤ f ∧ f ≤ 240 := ⟨h.f2, h.f240⟩
  have c38 : ∀ W, Num W (some ⟨w.heap.size + 1, 4, none⟩) 4 4 (lowW (W4 k) 4) → Calls Tryz.prog 33 #[.slice (some ⟨w.heap.size + 1, 4, none⟩) 4 4] W fun e w' => e = .returned (.int .i64 (lenL (W4 k) 4)) ∧ W = w' := fun W hN => by
    have := rlen_num (some ⟨w.heap.size + 1, 4, none⟩) 4 4 (lowW (W4 k) 4) W (by decide) hN
    rw [lenL_low] at this
    exact this
  have hL1 := len4_le (k := f + 1) hk
  have hL0 := len4_le (k := f) hk
  have hLp := len4_le (k := f - 1) hk
  have hLz := len4_zero hk
  have hz0 : 0 ≤ lenL (W4 k) 4 := by
    by_cases hz : k = 0
    · rw [hLz.2 hz]; exact Int.le_refl _
    · have := len4_le (k := 0) hk
      have h1 : ¬ lenL (W4 k) 4 ≤ ((0 : Nat) : Int) := fun hh => hz (by have := this.1 hh; omega)
      omega
  rw [show ((f + 1 : Nat) : Int) = (f : Int) + 1 by omega] at hL1
  rw [show ((f - 1 : Nat) : Int) = (f : Int) - 1 by omega] at hLp
  generalize lenL (W4 k) 4 = L at *
  have D : ∀ (p : Prop) [Decidable p] (b : Bool), (b = true ↔ p) → decide p = b := fun p _ b hb => by
    cases b
    · exact decide_eq_false fun hp => by simpa using hb.2 hp
    · exact decide_eq_true (hb.1 rfl)
  by_cases h1 : c = 1
  · subst h1
    cases g with
    | true => rw [D _ false (by unfold isD; simp)]; exact is1_g n nm wd f e l m x s k L w hf c38
    | false =>
      by_cases a1 : L ≤ (f : Int) + 1
      · by_cases a2 : l ≤ x
        · by_cases a3 : x ≤ m
          · by_cases a4 : L = (f : Int) + 1
            · rw [D _ true (by unfold isD; simp; refine ⟨hL1.1 a1, a2, a3, Or.inl ?_⟩; rcases Nat.lt_or_ge k (2 ^ f) with hh | hh; (have := hL0.2 hh; omega); exact hh)]
              exact is1_a n nm wd f e l m x s k L w hf c38 a1 a2 a3 (by simpa using a4)
            · by_cases a5 : x = l
              · rw [D _ true (by unfold isD; simp; exact ⟨hL1.1 a1, a2, a3, Or.inr a5⟩)]
                exact is1_b n nm wd f e l m x s k L w hf c38 a1 a2 a3 (by simpa using a4) (by simpa using a5)
              · rw [D _ false (by unfold isD; simp; intro _ _ _; have hkf := hL0.1 (by omega); exact ⟨by omega, a5⟩)]
                exact is1_n n nm wd f e l m x s k L w hf c38 a1 a2 a3 (by simpa using a4) (by simpa using a5)
          · rw [D _ false (by unfold isD; simp; intro _ _ h3; exact absurd h3 a3)]
            exact is1_m n nm wd f e l m x s k L w hf c38 a1 a2 a3
        · rw [D _ false (by unfold isD; simp; intro _ h2; exact absurd h2 a2)]
          exact is1_x n nm wd f e l m x s k L w hf c38 a1 a2
      · rw [D _ false (by unfold isD; simp; intro h3; exact absurd (hL1.2 h3) a1)]
        exact is1_l n nm wd f e l m x s k L w hf c38 a1
  · by_cases h2 : c = 2
    · subst h2
      cases g with
      | true => rw [D _ false (by unfold isD; simp)]; exact is2_g n nm wd f e l m x s k L w hf c38
      | false =>
        by_cases a1 : L = 0
        · by_cases a2 : x = 0
          · rw [D _ true (by unfold isD; simp; exact ⟨a2, hLz.1 a1⟩)]
            exact is2_a n nm wd f e l m x s k L w hf c38 (by simpa using a1) (by simpa using a2)
          · rw [D _ false (by unfold isD; simp; intro h3; exact absurd h3 a2)]
            exact is2_x n nm wd f e l m x s k L w hf c38 (by simpa using a1) (by simpa using a2)
        · rw [D _ false (by unfold isD; simp; intro _ h3; exact a1 (hLz.2 h3))]
          exact is2_l n nm wd f e l m x s k L w hf c38 (by simpa using a1)
    · by_cases h3 : c = 3
      · subst h3
        by_cases a2 : x = 0
        · by_cases a1 : L ≤ (f : Int) - 1
          · by_cases a3 : 0 < L
            · rw [D _ true (by unfold isD; simp; exact ⟨a2, hLp.1 a1, Or.inl fun hh => by rw [hLz.2 hh] at a3; omega⟩)]
              exact is3_a n nm wd f e l m x s g k L w hf c38 (by simpa using a2) a1 a3
            · have k0 : k = 0 := hLz.1 (by omega)
              cases g with
              | false =>
                rw [D _ true (by unfold isD; simp; exact ⟨a2, hLp.1 a1⟩)]
                exact is3_q n nm wd f e l m x s k L w hf c38 (by simpa using a2) a1 a3
              | true =>
                rw [D _ false (by unfold isD; simp; intro _ _; exact k0)]
                exact is3_s n nm wd f e l m x s k L w hf c38 (by simpa using a2) a1 a3
          · rw [D _ false (by unfold isD; simp; intro _ h4; exact absurd (hLp.2 h4) a1)]
            exact is3_l n nm wd f e l m x s g k L w hf c38 (by simpa using a2) a1
        · rw [D _ false (by unfold isD; simp; intro h4; exact absurd h4 a2)]
          exact is3_x n nm wd f e l m x s g k L w hf c38 (by simpa using a2)
      · rw [D _ false (by unfold isD; simp [h1, h2, h3])]
        exact is_0 n nm wd f e l m c x s g k L w hf c38 (by simpa using h1) (by simpa using h2) (by simpa using h3)
end
section
/-- a block holds four words of a number, from a place on -/
structure Four (w : World) (g o k : Nat) : Prop where
  cell : ∀ i, i < 4 → w.cell? ⟨g, o + i, none⟩ = some (.int .u64 (W4 k i))
theorem Four.of {w : World} {g o k : Nat} (h0 : w.cell? ⟨g, o + 0, none⟩ = some (.int .u64 (W4 k 0))) (h1 : w.cell? ⟨g, o + 1, none⟩ = some (.int .u64 (W4 k 1))) (h2 : w.cell? ⟨g, o + 2, none⟩ = some (.int .u64 (W4 k 2))) (h3 : w.cell? ⟨g, o + 3, none⟩ = some (.int .u64 (W4 k 3))) : Four w g o k :=
  ⟨fun i hi => by
    have : i = 0 ∨ i = 1 ∨ i = 2 ∨ i = 3 := by omega
    rcases this with rfl | rfl | rfl | rfl <;> assumption⟩
theorem Four.next {w w' : World} {g o k : Nat} (h : Four w g o k) (hg : g < w.heap.size) (hb : Below w.heap.size w w') : Four w' g o k :=
  ⟨fun i hi => by rw [hb.cell (p := ⟨g, o + i, none⟩) hg]; exact h.cell i hi⟩
/-- a block holds a datum -/
structure Dc (w : World) (g : Nat) (c : Int) (s b : Bool) (x : Int) (k : Nat) : Prop where
  c0 : w.cell? ⟨g, 0, none⟩ = some (.int .i64 c)
  c1 : w.cell? ⟨g, 1, none⟩ = some (.bool s)
  c2 : w.cell? ⟨g, 2, none⟩ = some (.bool b)
  c3 : w.cell? ⟨g, 3, none⟩ = some (.int .i64 x)
  c4 : w.cell? ⟨g, 4, none⟩ = some (.int .u64 (W4 k 0))
  c5 : w.cell? ⟨g, 5, none⟩ = some (.int .u64 (W4 k 1))
  c6 : w.cell? ⟨g, 6, none⟩ = some (.int .u64 (W4 k 2))
  c7 : w.cell? ⟨g, 7, none⟩ = some (.int .u64 (W4 k 3))
theorem Dc.next {w w' : World} {g : Nat} {c : Int} {s b : Bool} {x : Int} {k : Nat} (h : Dc w g c s b x k) (hg : g < w.heap.size) (hb : Below w.heap.size w w') : Dc w' g c s b x k :=
  ⟨by rw [hb.cell (p := ⟨g, 0, none⟩) hg, h.c0], by rw [hb.cell (p := ⟨g, 1, none⟩) hg, h.c1], by rw [hb.cell (p := ⟨g, 2, none⟩) hg, h.c2], by rw [hb.cell (p := ⟨g, 3, none⟩) hg, h.c3],
   by rw [hb.cell (p := ⟨g, 4, none⟩) hg, h.c4], by rw [hb.cell (p := ⟨g, 5, none⟩) hg, h.c5], by rw [hb.cell (p := ⟨g, 6, none⟩) hg, h.c6], by rw [hb.cell (p := ⟨g, 7, none⟩) hg, h.c7]⟩
/-- what stands in the words below i -/
def mo (A B i : Nat) : Bool := decide (val (W4 B) i < val (W4 A) i)
attribute [local irreducible] W4 mo
end
end Go.Proofs.YtpemdcnneabbfaaGreatDoor

set_option maxRecDepth 100000
namespace Go.Proofs.YtpemdcnneabbfaaGreatDoor
open Go.ChangeShapes Go.WideShapes Go.ChangeAt Go.RowKit

/-- Go's tables, as cells -/
def firstCells : Array Value := (((List.replicate 128 240 ++ List.replicate 66 241 ++ List.replicate 30 2 ++ [19] ++ List.replicate 12 3 ++ [35] ++ List.replicate 2 3 ++ [52] ++ List.replicate 3 4 ++ [68] ++ List.replicate 11 241 : List Int)).map fun n => Value.int .u8 n).toArray
def rangeCells : Array Value := ((([128, 191, 160, 191, 128, 159, 144, 191, 128, 143] ++ List.replicate 22 0 : List Int)).map fun n => Value.int .u8 n).toArray
def db32Cells : Array Value := (([0, 1, 28, 2, 29, 14, 24, 3, 30, 22, 20, 15, 25, 17, 4, 8, 31, 27, 13, 23, 21, 19, 16, 7, 26, 12, 18, 6, 11, 5, 10, 9] : List Int).map fun n => Value.int .u8 n).toArray
def db64Cells : Array Value := ((([0, 1, 56, 2, 57, 49, 28, 3, 61, 58, 42, 50, 38, 29, 17, 4, 62, 47, 59, 36, 45, 43, 51, 22, 53, 39, 33, 30, 24, 18, 12, 5] ++ [63, 55, 48, 27, 60, 41, 37, 16, 46, 35, 44, 21, 52, 32, 23, 11, 54, 26, 40, 15, 34, 20, 31, 10, 25, 14, 19, 9, 13, 8, 7, 6] : List Int)).map fun n => Value.int .u8 n).toArray
def pow10Cells : Array Value := ((List.range 20).map fun k => Value.int .u64 ((10 ^ k : Nat) : Int)).toArray
noncomputable def laidWorld8 (os : Os) : World :=
  { World.holding Tryz.prog os ⟨#[], #[], []⟩ with heap := ((((((World.holding Tryz.prog os ⟨#[], #[], []⟩).heap.modify 3 (layCells tabCells)).modify 7 (layCells pow10Cells)).modify 8 (layCells db32Cells)).modify 9 (layCells db64Cells)).modify 4 (layCells firstCells)).modify 5 (layCells rangeCells) }
theorem laid_tail {P : Program} {W : World} {x : String × DataW Unit} {r : List (String × DataW Unit)} (h : laidMet P (x :: r) W) : laidMet P r W := by
  obtain ⟨ps, ⟨g, t, cs, fuel, p, q, _, _, _, _, hr, rfl⟩, hn, hc⟩ := h
  refine ⟨q, hr, ?_, fun b off hm => hc b off (by simp [hm])⟩
  exact (List.nodup_append.1 hn).2.1
theorem pw10_of_list {W : World} {x y : String × DataW Unit} {r : List (String × DataW Unit)} (h : laidMet Tryz.prog (x :: y :: ("internal/strconv.uint64pow10", Lib.tabData .u64 Lib.pow10Tab) :: r) W) : Tb10 W :=
  Lib.tabIs_of_head (P := Tryz.prog) (name := "internal/strconv.uint64pow10") (k := .u64) (zs := Lib.pow10Tab) (g := 7) (t := 205) (e := 23) (n := 20) (by kernel_rfl) (by kernel_rfl) (by kernel_rfl) (by kernel_rfl) (by kernel_rfl) (by kernel_rfl) (laid_tail (laid_tail h))
theorem tab_of_list {W : World} {x0 x1 x2 x3 : String × DataW Unit} {r : List (String × DataW Unit)} (h : laidMet Tryz.prog (x0 :: x1 :: x2 :: x3 :: ("caliper/desc.rows", Rows.laid_caliper_desc_rows) :: r) W) : Tab W :=
  tab_of_laid (laid_tail (laid_tail (laid_tail (laid_tail h))))
end Go.Proofs.YtpemdcnneabbfaaGreatDoor
