/-
  Texts that the proof leans on, joined: Bt, Mt.
-/
import Derived.Test.YtkefmapcaggefaaDoorJ13
import Derived.Test.YtkefmapcaggefaaDoorJ1
set_option linter.unusedVariables false
set_option linter.unusedSectionVars false
set_option linter.unusedSimpArgs false
set_option maxRecDepth 20000
namespace Go.Proofs.YtkefmapcaggefaaDoor
open Go.RowKit

set_option maxHeartbeats 1000000 in
theorem pack_bad (n : Int) (d : Dat) (w : World) (hT : Tab w) (h : ¬ binN n) :
    Calls Tryd.prog 17 #[.int .i64 n, d.v] w fun x w' => x = .returned (.tuple #[Z4, .int .i64 1]) ∧ Below w.heap.size w w' := by
  have c31 := fun w hT => layoutOf_bad n w hT h
  obtain ⟨c, s, g, x, k⟩ := d
  unfold Dat.v
  dsimp only
  go_enter Tryd.func17, Tryd.ntmps17
  go_wp2_with (go_at_call 30; refine (c31 _ ((hT.alloc _).alloc _)).mono ?_; rintro x w1 ⟨rfl, hb1⟩; obtain ⟨hc1, hf1⟩ := bcell hb1; have hz1_0 : w.heap.size < w1.heap.size := lt_below hb1 ltg; have hl1_0 := Nat.le_of_lt hz1_0; have hz1_1 : w.heap.size + 1 < w1.heap.size := lt_below hb1 ltg; have hl1_1 := Nat.le_of_lt hz1_1; have hA1 := bnext (w0 := w) bgo hb1; have hs1 := hA1.size; clear hb1)
  have hsm := cell_set_map
  exact bodyPost_ret (v := .tuple #[Z4, .int .i64 1]) (by simp only [results, Tryd.results17]; go_simp) rfl ⟨rfl, bgo⟩
section
variable (n : Int) (f e : Nat) (l m : Int) (w : World) (hT : Tab w) (c x : Int) (s g : Bool) (k : Nat)
  (c31 : ∀ w, Tab w → Calls Tryd.prog 30 #[.int .i64 n] w fun x w' => x = .returned (.tuple #[LV f e l m, .int .i64 0]) ∧ Below w.heap.size w w')
include hT c31
set_option maxHeartbeats 1000000 in
theorem pack_1 (R : Nat) (E : Int) (c32 : ∀ w, Calls Tryd.prog 31 #[LV f e l m, DV 1 s g x k] w fun x w' => x = .returned (.tuple #[A4 R, .int .i64 E]) ∧ Below w.heap.size w w') :
    Calls Tryd.prog 17 #[.int .i64 n, DV 1 s g x k] w fun x w' => x = .returned (.tuple #[A4 R, .int .i64 E]) ∧ Below w.heap.size w w' := by
  go_enter Tryd.func17, Tryd.ntmps17
  go_wp2_with (first
    | (go_at_call 30; refine (c31 _ ((hT.alloc _).alloc _)).mono ?_; rintro x w1 ⟨rfl, hb1⟩; obtain ⟨hc1, hf1⟩ := bcell hb1; have hz1_0 : w.heap.size < w1.heap.size := lt_below hb1 ltg; have hl1_0 := Nat.le_of_lt hz1_0; have hz1_1 : w.heap.size + 1 < w1.heap.size := lt_below hb1 ltg; have hl1_1 := Nat.le_of_lt hz1_1; have hA1 := bnext (w0 := w) bgo hb1; have hs1 := hA1.size; clear hb1)
    | (go_at_call 31; refine (c32 _).mono ?_; rintro x w2 ⟨rfl, hb2⟩; obtain ⟨hc2, hf2⟩ := bcell hb2; have hz2_0 : w.heap.size < w2.heap.size := lt_below hb2 ltg; have hl2_0 := Nat.le_of_lt hz2_0; have hz2_1 : w.heap.size + 1 < w2.heap.size := lt_below hb2 ltg; have hl2_1 := Nat.le_of_lt hz2_1; have hz2_2 : w1.heap.size < w2.heap.size := lt_below hb2 ltg; have hl2_2 := Nat.le_of_lt hz2_2; have hA2 := bnext (w0 := w) bgo hb2; have hs2 := hA2.size; clear hb2))
  have hsm := cell_set_map
  exact bodyPost_ret (v := .tuple #[A4 R, .int .i64 E]) (by simp only [results, Tryd.results17]; go_simp) rfl ⟨rfl, bgo⟩
set_option maxHeartbeats 1000000 in
theorem pack_2 (R : Nat) (E : Int) (c33 : ∀ w, Calls Tryd.prog 32 #[LV f e l m, DV 2 s g x k] w fun x w' => x = .returned (.tuple #[A4 R, .int .i64 E]) ∧ Below w.heap.size w w') :
    Calls Tryd.prog 17 #[.int .i64 n, DV 2 s g x k] w fun x w' => x = .returned (.tuple #[A4 R, .int .i64 E]) ∧ Below w.heap.size w w' := by
  go_enter Tryd.func17, Tryd.ntmps17
  go_wp2_with (first
    | (go_at_call 30; refine (c31 _ ((hT.alloc _).alloc _)).mono ?_; rintro x w1 ⟨rfl, hb1⟩; obtain ⟨hc1, hf1⟩ := bcell hb1; have hz1_0 : w.heap.size < w1.heap.size := lt_below hb1 ltg; have hl1_0 := Nat.le_of_lt hz1_0; have hz1_1 : w.heap.size + 1 < w1.heap.size := lt_below hb1 ltg; have hl1_1 := Nat.le_of_lt hz1_1; have hA1 := bnext (w0 := w) bgo hb1; have hs1 := hA1.size; clear hb1)
    | (go_at_call 32; refine (c33 _).mono ?_; rintro x w2 ⟨rfl, hb2⟩; obtain ⟨hc2, hf2⟩ := bcell hb2; have hz2_0 : w.heap.size < w2.heap.size := lt_below hb2 ltg; have hl2_0 := Nat.le_of_lt hz2_0; have hz2_1 : w.heap.size + 1 < w2.heap.size := lt_below hb2 ltg; have hl2_1 := Nat.le_of_lt hz2_1; have hz2_2 : w1.heap.size < w2.heap.size := lt_below hb2 ltg; have hl2_2 := Nat.le_of_lt hz2_2; have hA2 := bnext (w0 := w) bgo hb2; have hs2 := hA2.size; clear hb2))
  have hsm := cell_set_map
  exact bodyPost_ret (v := .tuple #[A4 R, .int .i64 E]) (by simp only [results, Tryd.results17]; go_simp) rfl ⟨rfl, bgo⟩
set_option maxHeartbeats 1000000 in
theorem pack_3 (R : Nat) (E : Int) (c34 : ∀ w, Calls Tryd.prog 33 #[LV f e l m, DV 3 s g x k] w fun x w' => x = .returned (.tuple #[A4 R, .int .i64 E]) ∧ Below w.heap.size w w') :
    Calls Tryd.prog 17 #[.int .i64 n, DV 3 s g x k] w fun x w' => x = .returned (.tuple #[A4 R, .int .i64 E]) ∧ Below w.heap.size w w' := by
  go_enter Tryd.func17, Tryd.ntmps17
  go_wp2_with (first
    | (go_at_call 30; refine (c31 _ ((hT.alloc _).alloc _)).mono ?_; rintro x w1 ⟨rfl, hb1⟩; obtain ⟨hc1, hf1⟩ := bcell hb1; have hz1_0 : w.heap.size < w1.heap.size := lt_below hb1 ltg; have hl1_0 := Nat.le_of_lt hz1_0; have hz1_1 : w.heap.size + 1 < w1.heap.size := lt_below hb1 ltg; have hl1_1 := Nat.le_of_lt hz1_1; have hA1 := bnext (w0 := w) bgo hb1; have hs1 := hA1.size; clear hb1)
    | (go_at_call 33; refine (c34 _).mono ?_; rintro x w2 ⟨rfl, hb2⟩; obtain ⟨hc2, hf2⟩ := bcell hb2; have hz2_0 : w.heap.size < w2.heap.size := lt_below hb2 ltg; have hl2_0 := Nat.le_of_lt hz2_0; have hz2_1 : w.heap.size + 1 < w2.heap.size := lt_below hb2 ltg; have hl2_1 := Nat.le_of_lt hz2_1; have hz2_2 : w1.heap.size < w2.heap.size := lt_below hb2 ltg; have hl2_2 := Nat.le_of_lt hz2_2; have hA2 := bnext (w0 := w) bgo hb2; have hs2 := hA2.size; clear hb2))
  have hsm := cell_set_map
  exact bodyPost_ret (v := .tuple #[A4 R, .int .i64 E]) (by simp only [results, Tryd.results17]; go_simp) rfl ⟨rfl, bgo⟩
set_option maxHeartbeats 1000000 in
theorem pack_0 (h1 : (c == 1) = false) (h2 : (c == 2) = false) (h3 : (c == 3) = false) :
    Calls Tryd.prog 17 #[.int .i64 n, DV c s g x k] w fun x w' => x = .returned (.tuple #[Z4, .int .i64 3]) ∧ Below w.heap.size w w' := by
  go_enter Tryd.func17, Tryd.ntmps17
  go_wp2_with (go_at_call 30; refine (c31 _ ((hT.alloc _).alloc _)).mono ?_; rintro x w1 ⟨rfl, hb1⟩; obtain ⟨hc1, hf1⟩ := bcell hb1; have hz1_0 : w.heap.size < w1.heap.size := lt_below hb1 ltg; have hl1_0 := Nat.le_of_lt hz1_0; have hz1_1 : w.heap.size + 1 < w1.heap.size := lt_below hb1 ltg; have hl1_1 := Nat.le_of_lt hz1_1; have hA1 := bnext (w0 := w) bgo hb1; have hs1 := hA1.size; clear hb1)
  have hsm := cell_set_map
  exact bodyPost_ret (v := .tuple #[Z4, .int .i64 3]) (by simp only [results, Tryd.results17]; go_simp) rfl ⟨rfl, bgo⟩
set_option maxHeartbeats 1000000 in
theorem largest_ok (hf : f ≤ 240) (P1 P0 Fr R : Nat) (cr sp : Int) (hsp : 1 ≤ sp ∧ sp ≤ 1000000)
    (c23 : ∀ w, Calls Tryd.prog 25 #[.int .i64 f] w fun x w' => x = .returned (A4 P1) ∧ Below w.heap.size w w')
    (c230 : ∀ w, Calls Tryd.prog 25 #[.int .i64 0] w fun x w' => x = .returned (A4 P0) ∧ Below w.heap.size w w')
    (c39 : ∀ w, Calls Tryd.prog 38 #[A4 P1, A4 P0] w fun x w' => x = .returned (.tuple #[A4 Fr, .int .u64 cr]) ∧ Below w.heap.size w w')
    (c20 : ∀ w, Calls Tryd.prog 22 #[LV f e l m] w fun x w' => x = .returned (.int .u64 sp) ∧ Below w.heap.size w w')
    (c40 : ∀ w, Calls Tryd.prog 45 #[LV f e l m, .bool s, .int .u64 (sp - 1), A4 Fr] w fun x w' => x = .returned (A4 R) ∧ Below w.heap.size w w') :
    Calls Tryd.prog 67 #[.int .i64 n, .bool s] w fun x w' => x = .returned (.tuple #[A4 R, .int .i64 0]) ∧ Below w.heap.size w w' := by
  go_enter Tryd.func67, Tryd.ntmps67
  go_wp2_with (first
    | (go_at_call 30; refine (c31 _ (hT.alloc _)).mono ?_; rintro x w1 ⟨rfl, hb1⟩; obtain ⟨hc1, hf1⟩ := bcell hb1; have hz1_0 : w.heap.size < w1.heap.size := lt_below hb1 ltg; have hl1_0 := Nat.le_of_lt hz1_0; have hA1 := bnext (w0 := w) bgo hb1; have hs1 := hA1.size; clear hb1)
    | (go_at_call 25; refine (c23 _).mono ?_; rintro x w2 ⟨rfl, hb2⟩; obtain ⟨hc2, hf2⟩ := bcell hb2; have hz2_0 : w.heap.size < w2.heap.size := lt_below hb2 ltg; have hl2_0 := Nat.le_of_lt hz2_0; have hz2_1 : w1.heap.size < w2.heap.size := lt_below hb2 ltg; have hl2_1 := Nat.le_of_lt hz2_1; have hA2 := bnext (w0 := w) bgo hb2; have hs2 := hA2.size; clear hb2)
    | (go_at_call 25; refine (c230 _).mono ?_; rintro x w3 ⟨rfl, hb3⟩; obtain ⟨hc3, hf3⟩ := bcell hb3; have hz3_0 : w.heap.size < w3.heap.size := lt_below hb3 ltg; have hl3_0 := Nat.le_of_lt hz3_0; have hz3_1 : w1.heap.size < w3.heap.size := lt_below hb3 ltg; have hl3_1 := Nat.le_of_lt hz3_1; have hA3 := bnext (w0 := w) bgo hb3; have hs3 := hA3.size; clear hb3)
    | (go_at_call 38; refine (c39 _).mono ?_; rintro x w4 ⟨rfl, hb4⟩; obtain ⟨hc4, hf4⟩ := bcell hb4; have hz4_0 : w.heap.size < w4.heap.size := lt_below hb4 ltg; have hl4_0 := Nat.le_of_lt hz4_0; have hz4_1 : w1.heap.size < w4.heap.size := lt_below hb4 ltg; have hl4_1 := Nat.le_of_lt hz4_1; have hA4 := bnext (w0 := w) bgo hb4; have hs4 := hA4.size; clear hb4))
  refine wp_tail 7 (by kernel_rfl) (by kernel_rfl) (by kernel_rfl) (fun _ _ d _ _ h => by cases d <;> exact h) fun hne hcell => ?_
  simp only [List.take_succ_cons, List.take_zero, List.drop_succ_cons, List.drop_zero]
  repeat go_big_quiet_step (fail)
  go_big_quiet_step ((go_at_call 22; exact calls_wd _ bk_next (c20 _)))
  repeat go_big_quiet_step (fail)
  go_big_quiet_step ((go_at_call 45; exact calls_wd _ bk_next (c40 _)))
  refine wpQuiet_nil fun w5 hb5 => ?_
  obtain ⟨hc5, hf5⟩ := bcell hb5; have hz5_0 : w.heap.size < w5.heap.size := lt_below hb5 ltg; have hl5_0 := Nat.le_of_lt hz5_0; have hz5_1 : w1.heap.size < w5.heap.size := lt_below hb5 ltg; have hl5_1 := Nat.le_of_lt hz5_1; have hz5_2 : w4.heap.size < w5.heap.size := lt_below hb5 ltg; have hl5_2 := Nat.le_of_lt hz5_2; have hA5 := bnext (w0 := w) bgo hb5; have hs5 := hA5.size; clear hb5
  have hsm := cell_set_map
  go_wp2
  exact bodyPost_ret (v := .tuple #[A4 R, .int .i64 0]) (by simp only [results, Tryd.results67]; go_simp) rfl ⟨rfl, bgo⟩
end
set_option maxHeartbeats 1000000 in
theorem largest_bad (n : Int) (s : Bool) (w : World) (hT : Tab w) (h : ¬ binN n) :
    Calls Tryd.prog 67 #[.int .i64 n, .bool s] w fun x w' => x = .returned (.tuple #[Z4, .int .i64 1]) ∧ Below w.heap.size w w' := by
  have c31 := fun w hT => layoutOf_bad n w hT h
  go_enter Tryd.func67, Tryd.ntmps67
  go_wp2_with (go_at_call 30; refine (c31 _ (hT.alloc _)).mono ?_; rintro x w1 ⟨rfl, hb1⟩; obtain ⟨hc1, hf1⟩ := bcell hb1; have hz1_0 : w.heap.size < w1.heap.size := lt_below hb1 ltg; have hl1_0 := Nat.le_of_lt hz1_0; have hA1 := bnext (w0 := w) bgo hb1; have hs1 := hA1.size; clear hb1)
  have hsm := cell_set_map
  exact bodyPost_ret (v := .tuple #[Z4, .int .i64 1]) (by simp only [results, Tryd.results67]; go_simp) rfl ⟨rfl, bgo⟩

/-- what Pack answers: the pattern, and the error's number -/
def pkV (n : Int) (d : Dat) : Nat := if binN n ∧ isD (fN n) (leastN n) (mostN n) d then pk (fN n) (eN n) (leastN n) d else 0
def pkE (n : Int) (d : Dat) : Int := if binN n then (if isD (fN n) (leastN n) (mostN n) d then 0 else 3) else 1
theorem pack_any (n : Int) (d : Dat) (w : World) (hT : Tab w) (hk : d.k < 2 ^ 256) :
    Calls Tryd.prog 17 #[.int .i64 n, d.v] w fun x w' => x = .returned (.tuple #[A4 (pkV n d), .int .i64 (pkE n d)]) ∧ Below w.heap.size w w' := by
  by_cases hb : binN n
  · have hF := bin_fm hb
    have c31 := fun w hT => layoutOf_ok n w hT hb
    have key : ∀ d : Dat, Value.tuple #[A4 (pkV n d), .int .i64 (pkE n d)] = if isD (fN n) (leastN n) (mostN n) d then .tuple #[A4 (pk (fN n) (eN n) (leastN n) d), .int .i64 0] else .tuple #[Z4, .int .i64 3] := fun d => by
      unfold pkV pkE
      by_cases hi : isD (fN n) (leastN n) (mostN n) d
      · rw [if_pos ⟨hb, hi⟩, if_pos hb, if_pos hi, if_pos hi]
      · rw [if_neg (fun h => hi h.2), if_pos hb, if_neg hi, if_neg hi, Z4_eq]
    obtain ⟨c, s, g, x, k⟩ := d
    unfold Dat.v
    dsimp only at hk ⊢
    by_cases h1 : c = 1
    · subst h1
      have c32 := fun w => packFinite_any (fN n) (eN n) (leastN n) (mostN n) w s g x k hF hk
      simp only [← key] at c32
      exact pack_1 n _ _ _ _ w hT x s g k c31 _ _ c32
    · by_cases h2 : c = 2
      · subst h2
        have c33 := fun w => packInfinite_any (fN n) (eN n) (leastN n) (mostN n) w s g x k hF hk
        simp only [← key] at c33
        exact pack_2 n _ _ _ _ w hT x s g k c31 _ _ c33
      · by_cases h3 : c = 3
        · subst h3
          have c34 := fun w => packNaN_any (fN n) (eN n) (leastN n) (mostN n) w s g x k hF hk
          simp only [← key] at c34
          exact pack_3 n _ _ _ _ w hT x s g k c31 _ _ c34
        · rw [key, if_neg (by unfold isD; simp [h1, h2, h3])]
          exact pack_0 n _ _ _ _ w hT c x s g k c31 (by simpa using h1) (by simpa using h2) (by simpa using h3)
  · have e1 : pkV n d = 0 := if_neg fun h => hb h.1
    have e2 : pkE n d = 1 := if_neg hb
    rw [e1, e2, Z4_eq]
    exact pack_bad n d w hT hb
def lgV (n : Int) (s : Bool) : Nat := if binN n then (2 ^ eN n - 2) * 2 ^ fN n + (2 ^ fN n - 1) + (if s then 2 ^ (fN n + eN n) else 0) else 0
def lgE (n : Int) : Int := if binN n then 0 else 1
theorem largest_any (n : Int) (s : Bool) (w : World) (hT : Tab w) :
    Calls Tryd.prog 67 #[.int .i64 n, .bool s] w fun x w' => x = .returned (.tuple #[A4 (lgV n s), .int .i64 (lgE n)]) ∧ Below w.heap.size w w' := by
  unfold lgV lgE
  by_cases hb : binN n
  · have hF := bin_fm hb
    rw [if_pos hb, if_pos hb]
    have hf := hF.f240
    have hp := pow_e hF.e2 hF.e15
    have hpc : ((2 : Int) ^ eN n) = ((2 ^ eN n : Nat) : Int) := by simp
    rw [hpc] at hp
    have hp1 : 1 ≤ 2 ^ fN n := Nat.one_le_two_pow
    have hp2 : 2 ^ fN n ≤ 2 ^ (fN n + 1) := Nat.pow_le_pow_right (by decide) (by omega)
    have h256 : 2 ^ fN n < 2 ^ 256 := Nat.pow_lt_pow_right (by decide) (by omega)
    have c39 := fun w => sub4 (2 ^ fN n) (2 ^ 0) w h256 (by decide)
    rw [A4_sub (show 2 ^ 0 ≤ 2 ^ fN n from hp1), if_neg (show ¬ 2 ^ fN n < 2 ^ 0 by omega)] at c39
    have c40 := fun w => join_any (fN n) (eN n) (leastN n) (mostN n) s (2 ^ eN n - 2) (2 ^ fN n - 1) w hF (by omega) (by omega)
    rw [show ((2 ^ eN n - 2 : Nat) : Int) = ((2 ^ eN n - 1 : Nat) : Int) - 1 by omega] at c40
    have c230 := fun w => power_any 0 w (by decide)
    exact largest_ok n _ _ _ _ w hT s (fun w hT => layoutOf_ok n w hT hb) hf _ _ _ _ _ _ (by omega) (fun w => power_any (fN n) w (by omega)) c230 c39 (fun w => special_any _ _ _ _ w hF) c40
  · rw [if_neg hb, if_neg hb, Z4_eq]
    exact largest_bad n s w hT hb

/-- what Unpack answers -/
def unD (n : Int) (B : Nat) : Dat := if goodN n B then unp (fN n) (eN n) (leastN n) B else ⟨0, false, false, 0, 0⟩
def unE (n : Int) (B : Nat) : Int := if goodN n B then 0 else 1
theorem unpack_any (n : Int) (B : Nat) (w : World) (hT : Tab w) (hB : B < 2 ^ 256) :
    Calls Tryd.prog 12 #[.int .i64 n, A4 B] w fun x w' => x = .returned (.tuple #[(unD n B).v, .int .i64 (unE n B)]) ∧ Below w.heap.size w w' := by
  unfold unD unE
  by_cases h : goodN n B
  · rw [if_pos h, if_pos h]; exact unpack_ok n B w hT hB h
  · rw [if_neg h, if_neg h]; exact unpack_bad n B w hT hB h
end Go.Proofs.YtkefmapcaggefaaDoor

namespace Go.Proofs.YtkefmapcaggefaaDoor

/-- a pattern made of its fields -/
theorem fields_of {f e S E F : Nat} (hS : S ≤ 1) (hE : E < 2 ^ e) (hF : F < 2 ^ f) :
    (E * 2 ^ f + F + S * 2 ^ (f + e)) % 2 ^ f = F ∧ (E * 2 ^ f + F + S * 2 ^ (f + e)) / 2 ^ f % 2 ^ e = E ∧ (E * 2 ^ f + F + S * 2 ^ (f + e)) / 2 ^ (f + e) = S ∧ E * 2 ^ f + F + S * 2 ^ (f + e) < 2 ^ (f + e + 1) := by
  have hP : 0 < 2 ^ f := Nat.two_pow_pos f
  have hR : 0 < 2 ^ e := Nat.two_pow_pos e
  have e1 : E * 2 ^ f + F + S * 2 ^ (f + e) = F + (E + S * 2 ^ e) * 2 ^ f := by
    rw [Nat.pow_add, Nat.add_mul, Nat.mul_assoc, Nat.mul_comm (2 ^ e) (2 ^ f)]; omega
  have d1 : (E * 2 ^ f + F + S * 2 ^ (f + e)) / 2 ^ f = E + S * 2 ^ e := by
    rw [e1, Nat.add_mul_div_right _ _ hP, Nat.div_eq_of_lt hF, Nat.zero_add]
  have d2 : (E * 2 ^ f + F + S * 2 ^ (f + e)) / 2 ^ (f + e) = S := by
    rw [Nat.pow_add, ← Nat.div_div_eq_div_mul, ← Nat.pow_add, d1, Nat.add_mul_div_right _ _ hR, Nat.div_eq_of_lt hE, Nat.zero_add]
  refine ⟨?_, ?_, d2, ?_⟩
  · rw [e1, Nat.add_mul_mod_self_right, Nat.mod_eq_of_lt hF]
  · rw [d1, Nat.add_mul_mod_self_right, Nat.mod_eq_of_lt hE]
  · have hp : 0 < 2 ^ (f + e) := Nat.two_pow_pos _
    refine Nat.lt_of_div_lt_div (c := 2 ^ (f + e)) ?_
    rw [d2, Nat.pow_succ, Nat.mul_comm, Nat.mul_div_cancel _ hp]
    omega
theorem fields_in {f e B : Nat} (hB : B < 2 ^ (f + e + 1)) : ∃ S E F, S ≤ 1 ∧ E < 2 ^ e ∧ F < 2 ^ f ∧ B = E * 2 ^ f + F + S * 2 ^ (f + e) := by
  refine ⟨B / 2 ^ (f + e), B / 2 ^ f % 2 ^ e, B % 2 ^ f, ?_, Nat.mod_lt _ (Nat.two_pow_pos _), Nat.mod_lt _ (Nat.two_pow_pos _), ?_⟩
  · have : B / 2 ^ (f + e) < 2 := Nat.div_lt_of_lt_mul (by rw [Nat.mul_comm]; rw [Nat.pow_succ] at hB; omega)
    omega
  · have h1 := Nat.div_add_mod' B (2 ^ f)
    have h2 := Nat.div_add_mod' (B / 2 ^ f) (2 ^ e)
    rw [Nat.div_div_eq_div_mul, ← Nat.pow_add] at h2
    have h3 : (B / 2 ^ (f + e) * 2 ^ e + B / 2 ^ f % 2 ^ e) * 2 ^ f = B / 2 ^ f * 2 ^ f := by rw [h2]
    rw [Nat.add_mul, Nat.mul_assoc, Nat.mul_comm (2 ^ e) (2 ^ f), ← Nat.pow_add] at h3
    omega
theorem sg_of {f e S E F : Nat} (hS : S ≤ 1) (hE : E < 2 ^ e) (hF : F < 2 ^ f) : sgB f e (E * 2 ^ f + F + S * 2 ^ (f + e)) = decide (S = 1) := by
  unfold sgB
  rw [(fields_of hS hE hF).2.2.1]
  have : S = 0 ∨ S = 1 := by omega
  rcases this with rfl | rfl <;> rfl
/-- what a pattern means, by its fields -/
def mean (f e : Nat) (l : Int) (S E F : Nat) : Dat :=
  if E = 2 ^ e - 1 then spc f (decide (S = 1)) F else if E = 0 then ⟨1, decide (S = 1), false, l, F⟩ else ⟨1, decide (S = 1), false, l + ((E : Int) - 1), F + 2 ^ f⟩
theorem unp_mean {f e S E F : Nat} (l : Int) (hS : S ≤ 1) (hE : E < 2 ^ e) (hF : F < 2 ^ f) : unp f e l (E * 2 ^ f + F + S * 2 ^ (f + e)) = mean f e l S E F := by
  unfold unp mean
  obtain ⟨h1, h2, _, _⟩ := fields_of hS hE hF
  rw [h1, h2, sg_of hS hE hF]
theorem sel {S X : Nat} (hS : S ≤ 1) : (if decide (S = 1) = true then X else 0) = S * X := by
  have : S = 0 ∨ S = 1 := by omega
  rcases this with rfl | rfl <;> simp
theorem half {f : Nat} (h : 2 ≤ f) : 2 ^ (f - 1) + 2 ^ (f - 1) = 2 ^ f ∧ 1 ≤ 2 ^ (f - 1) := by
  refine ⟨?_, Nat.one_le_two_pow⟩
  have : f = f - 1 + 1 := by omega
  conv => rhs; rw [this, Nat.pow_succ]
  omega
theorem mean_isD {f e S E F : Nat} {l m : Int} (h : Fm f e l m) (hS : S ≤ 1) (hE : E < 2 ^ e) (hF : F < 2 ^ f) : isD f l m (mean f e l S E F) ∧ pk f e l (mean f e l S E F) = E * 2 ^ f + F + S * 2 ^ (f + e) ∧ (mean f e l S E F).k < 2 ^ 256 := by
  have hp := pow_e h.e2 h.e15
  have hpc : ((2 : Int) ^ e) = ((2 ^ e : Nat) : Int) := by simp
  have hm := h.m
  rw [hpc] at hp hm
  have hh := half h.f2
  have h256 : 2 ^ (f + 1) ≤ 2 ^ 256 := Nat.pow_le_pow_right (by decide) (by have := h.f240; omega)
  have hs1 : 2 ^ (f + 1) = 2 ^ f + 2 ^ f := by rw [Nat.pow_succ]; omega
  unfold mean
  by_cases h1 : E = 2 ^ e - 1
  · rw [if_pos h1]
    unfold spc
    by_cases h2 : F = 0
    · rw [if_pos h2]
      refine ⟨Or.inr (Or.inl ⟨rfl, rfl, rfl, rfl⟩), ?_, by show 0 < _; omega⟩
      unfold pk
      simp only [show ¬ ((2 : Int) = 1) by decide, if_false, if_true]
      rw [sel hS, ← h1, h2]
    · rw [if_neg h2]
      by_cases h3 : F < 2 ^ (f - 1)
      · rw [if_pos h3]
        refine ⟨Or.inr (Or.inr ⟨rfl, rfl, h3, Or.inl h2⟩), ?_, by show F < _; omega⟩
        unfold pk
        simp only [show ¬ ((3 : Int) = 1) by decide, show ¬ ((3 : Int) = 2) by decide, if_false, if_true]
        rw [sel hS, ← h1]
      · rw [if_neg h3]
        refine ⟨Or.inr (Or.inr ⟨rfl, rfl, by show F - 2 ^ (f - 1) < _; omega, Or.inr rfl⟩), ?_, by show F - 2 ^ (f - 1) < _; omega⟩
        unfold pk
        simp only [show ¬ ((3 : Int) = 1) by decide, show ¬ ((3 : Int) = 2) by decide, if_false, Bool.false_eq_true]
        rw [sel hS, ← h1, Nat.sub_add_cancel (by omega)]
  · rw [if_neg h1]
    by_cases h2 : E = 0
    · rw [if_pos h2]
      refine ⟨Or.inl ⟨rfl, rfl, by show F < _; omega, Int.le_refl _, by show l ≤ m; omega, Or.inr rfl⟩, ?_, by show F < _; omega⟩
      unfold pk
      simp only [if_true, Int.sub_self, Int.toNat_zero, Nat.zero_mul]
      rw [sel hS, h2, Nat.zero_mul]
    · rw [if_neg h2]
      refine ⟨Or.inl ⟨rfl, rfl, by show F + 2 ^ f < _; omega, by show l ≤ l + ((E : Int) - 1); omega, by show l + ((E : Int) - 1) ≤ m; omega, Or.inl (by show 2 ^ f ≤ F + 2 ^ f; omega)⟩, ?_, by show F + 2 ^ f < _; omega⟩
      unfold pk
      simp only [if_true]
      rw [sel hS, show (l + ((E : Int) - 1) - l).toNat = E - 1 by omega]
      obtain ⟨E', rfl⟩ : ∃ E', E = E' + 1 := ⟨E - 1, by omega⟩
      rw [Nat.add_sub_cancel, Nat.add_mul]
      omega
theorem pk_mean {f e : Nat} {l m : Int} {d : Dat} (h : Fm f e l m) (hd : isD f l m d) : ∃ S E F, S ≤ 1 ∧ E < 2 ^ e ∧ F < 2 ^ f ∧ pk f e l d = E * 2 ^ f + F + S * 2 ^ (f + e) ∧ mean f e l S E F = d := by
  have hp := pow_e h.e2 h.e15
  have hpc : ((2 : Int) ^ e) = ((2 ^ e : Nat) : Int) := by simp
  have hm := h.m
  rw [hpc] at hp hm
  have hh := half h.f2
  have hs1 : 2 ^ (f + 1) = 2 ^ f + 2 ^ f := by rw [Nat.pow_succ]; omega
  obtain ⟨c, s, g, x, k⟩ := d
  have hsg : ∃ S, S ≤ 1 ∧ decide (S = 1) = s ∧ ∀ X, (if s then X else 0) = S * X := by
    cases s
    · exact ⟨0, by decide, rfl, fun X => by simp⟩
    · exact ⟨1, by decide, rfl, fun X => by simp⟩
  obtain ⟨S, hS, hs, hsX⟩ := hsg
  rcases hd with ⟨hc, hg, hk, hx1, hx2, hx3⟩ | ⟨hc, hg, hx, hk⟩ | ⟨hc, hx, hk, hg⟩
  · dsimp only at hc hg hk hx1 hx2 hx3
    subst hc hg
    by_cases hf : 2 ^ f ≤ k
    · refine ⟨S, (x - l).toNat + 1, k - 2 ^ f, hS, by omega, by omega, ?_, ?_⟩
      · unfold pk
        simp only [if_true, hsX]
        rw [Nat.add_mul]; omega
      · unfold mean
        rw [if_neg (by omega), if_neg (by omega), hs, Nat.sub_add_cancel hf]
        congr 1
        omega
    · obtain rfl : x = l := by omega
      refine ⟨S, 0, k, hS, by omega, by omega, ?_, ?_⟩
      · unfold pk
        simp only [if_true, hsX, Int.sub_self, Int.toNat_zero]
      · unfold mean
        rw [if_neg (by omega), if_pos rfl, hs]
  · dsimp only at hc hg hx hk
    subst hc hg hx hk
    refine ⟨S, 2 ^ e - 1, 0, hS, by omega, by omega, ?_, ?_⟩
    · unfold pk
      simp only [show ¬ ((2 : Int) = 1) by decide, if_false, if_true, hsX]
    · unfold mean spc
      rw [if_pos rfl, if_pos rfl, hs]
  · dsimp only at hc hx hk hg
    subst hc hx
    cases g with
    | true =>
      have hk0 : k ≠ 0 := hg.resolve_right (by decide)
      refine ⟨S, 2 ^ e - 1, k, hS, by omega, by omega, ?_, ?_⟩
      · unfold pk
        simp only [show ¬ ((3 : Int) = 1) by decide, show ¬ ((3 : Int) = 2) by decide, if_false, if_true, hsX]
      · unfold mean spc
        rw [if_pos rfl, if_neg hk0, if_pos hk, hs]
    | false =>
      refine ⟨S, 2 ^ e - 1, k + 2 ^ (f - 1), hS, by omega, by omega, ?_, ?_⟩
      · unfold pk
        simp only [show ¬ ((3 : Int) = 1) by decide, show ¬ ((3 : Int) = 2) by decide, if_false, Bool.false_eq_true, hsX]
      · unfold mean spc
        rw [if_pos rfl, if_neg (by omega), if_neg (by omega), hs, Nat.add_sub_cancel]
/-- what was unpacked is packed as it was -/
theorem back_un {n : Int} {B : Nat} (h : goodN n B) : pkE n (unD n B) = 0 ∧ pkV n (unD n B) = B := by
  have hF := bin_fm h.1
  obtain ⟨S, E, F, hS, hE, hFr, hB⟩ := fields_in h.2
  have hu : unD n B = mean (fN n) (eN n) (leastN n) S E F := by
    unfold unD; rw [if_pos h, hB, unp_mean _ hS hE hFr]
  obtain ⟨h1, h2, _⟩ := mean_isD hF hS hE hFr
  rw [hu]
  unfold pkE pkV
  rw [if_pos h.1, if_pos h1, if_pos ⟨h.1, h1⟩, h2]
  exact ⟨rfl, hB.symm⟩
theorem unD_k (n : Int) (B : Nat) : (unD n B).k < 2 ^ 256 := by
  unfold unD
  by_cases h : goodN n B
  · rw [if_pos h]
    obtain ⟨S, E, F, hS, hE, hFr, hB⟩ := fields_in h.2
    rw [hB, unp_mean _ hS hE hFr]
    exact (mean_isD (bin_fm h.1) hS hE hFr).2.2
  · rw [if_neg h]; decide
theorem good_256 {n : Int} {B : Nat} (h : goodN n B) : B < 2 ^ 256 := by
  have := (bin_fm h.1).fe
  exact Nat.lt_of_lt_of_le h.2 (Nat.pow_le_pow_right (by decide) (by omega))
/-- the other way round -/
theorem back_pk {n : Int} {d : Dat} (h : pkE n d = 0) : goodN n (pkV n d) ∧ unD n (pkV n d) = d := by
  have hb : binN n := by
    unfold pkE at h
    by_cases hb : binN n
    · exact hb
    · rw [if_neg hb] at h; cases h
  have hi : isD (fN n) (leastN n) (mostN n) d := by
    unfold pkE at h
    rw [if_pos hb] at h
    by_cases hi : isD (fN n) (leastN n) (mostN n) d
    · exact hi
    · rw [if_neg hi] at h; cases h
  have hF := bin_fm hb
  obtain ⟨S, E, F, hS, hE, hFr, hB, hm⟩ := pk_mean hF hi
  have hv : pkV n d = E * 2 ^ fN n + F + S * 2 ^ (fN n + eN n) := by
    unfold pkV; rw [if_pos ⟨hb, hi⟩, hB]
  have hg : goodN n (pkV n d) := ⟨hb, by rw [hv]; exact (fields_of hS hE hFr).2.2.2⟩
  refine ⟨hg, ?_⟩
  unfold unD
  rw [if_pos hg, hv, unp_mean _ hS hE hFr, hm]
end Go.Proofs.YtkefmapcaggefaaDoor
