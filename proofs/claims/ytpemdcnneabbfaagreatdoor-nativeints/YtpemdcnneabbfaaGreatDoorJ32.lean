/-
  Texts that the proof leans on.
-/
import Derived.Test.YtpemdcnneabbfaaGreatDoorJ31
import Derived.Test.YtpemdcnneabbfaaGreatDoorJ3
import Derived.DeepKeys
set_option linter.unusedVariables false
set_option linter.unusedSectionVars false
set_option linter.unusedSimpArgs false
set_option maxRecDepth 20000
namespace Go.Proofs.YtpemdcnneabbfaaGreatDoor
open Go.RowKit
section
/-- what a pattern means -/
def unp (f e : Nat) (l : Int) (B : Nat) : Dat :=
  if B / 2 ^ f % 2 ^ e = 2 ^ e - 1 then spc f (sgB f e B) (B % 2 ^ f)
  else if B / 2 ^ f % 2 ^ e = 0 then ⟨1, sgB f e B, false, l, B % 2 ^ f⟩
  else ⟨1, sgB f e B, false, l + ((B / 2 ^ f % 2 ^ e : Nat) - 1 : Int), B % 2 ^ f + 2 ^ f⟩

set_option maxHeartbeats 1000000 in
theorem unpack_bad (n : Int) (B : Nat) (w : World) (hT : Tab w) (hB : B < 2 ^ 256) (h : ¬ goodN n B) :
    Calls Tryz.prog 49 #[.int .i64 n, A4 B] w fun x w' => x = .returned (.tuple #[DV 0 false false 0 0, .int .i64 1]) ∧ Below w.heap.size w w' := by
  have c18 := fun w hT => layoutFor_bad n B w hT hB h
  unfold DV
  simp only [W4_zero]
  clear h hB
  go_enter Tryz.func49, Tryz.ntmps49
  go_wp2_with (go_at_call 93; refine (c18 _ ((hT.alloc _).alloc _)).mono ?_; rintro x w1 ⟨rfl, hb1⟩; obtain ⟨hc1, hf1⟩ := bcell hb1; have hz1_0 : w.heap.size < w1.heap.size := lt_below hb1 ltg; have hl1_0 := Nat.le_of_lt hz1_0; have hz1_1 : w.heap.size + 1 < w1.heap.size := lt_below hb1 ltg; have hl1_1 := Nat.le_of_lt hz1_1; have hA1 := bnext (w0 := w) bgo hb1; have hs1 := hA1.size; clear hb1)
  have hsm := cell_set_map
  exact bodyPost_ret (v := .tuple #[.agg #[.int .i64 0, .bool false, .bool false, .int .i64 0, .int .u64 0, .int .u64 0, .int .u64 0, .int .u64 0], .int .i64 1]) (by simp only [results, Tryz.results49]; go_simp) rfl ⟨rfl, bgo⟩

section
variable (n : Int) (B : Nat) (f e : Nat) (l m : Int) (w : World) (hT : Tab w) (S : Bool) (E sp : Int) (Fr : Nat)
  (c18 : ∀ w, Tab w → Calls Tryz.prog 93 #[.int .i64 n, A4 B] w fun x w' => x = .returned (.tuple #[LV f e l m, .int .i64 0]) ∧ Below w.heap.size w w')
  (c19 : ∀ w, Calls Tryz.prog 94 #[LV f e l m, A4 B] w fun x w' => x = .returned (.tuple #[.bool S, .int .u64 E, A4 Fr]) ∧ Below w.heap.size w w')
  (c20 : ∀ w, Calls Tryz.prog 95 #[LV f e l m] w fun x w' => x = .returned (.int .u64 sp) ∧ Below w.heap.size w w')
include hT c18 c19 c20
set_option maxHeartbeats 1000000 in
theorem unpack_sp (D : Dat) (c21 : ∀ w, Calls Tryz.prog 96 #[LV f e l m, .bool S, A4 Fr] w fun x w' => x = .returned D.v ∧ Below w.heap.size w w') (hE : (E == sp) = true) :
    Calls Tryz.prog 49 #[.int .i64 n, A4 B] w fun x w' => x = .returned (.tuple #[D.v, .int .i64 0]) ∧ Below w.heap.size w w' := by
  obtain ⟨dc, ds, dg, dx, dk⟩ := D
  unfold Dat.v at *
  dsimp only at *
  go_enter Tryz.func49, Tryz.ntmps49
  go_wp2_with (first
    | (go_at_call 93; refine (c18 _ ((hT.alloc _).alloc _)).mono ?_; rintro x w1 ⟨rfl, hb1⟩; obtain ⟨hc1, hf1⟩ := bcell hb1; have hz1_0 : w.heap.size < w1.heap.size := lt_below hb1 ltg; have hl1_0 := Nat.le_of_lt hz1_0; have hz1_1 : w.heap.size + 1 < w1.heap.size := lt_below hb1 ltg; have hl1_1 := Nat.le_of_lt hz1_1; have hA1 := bnext (w0 := w) bgo hb1; have hs1 := hA1.size; clear hb1)
    | (go_at_call 94; refine (c19 _).mono ?_; rintro x w2 ⟨rfl, hb2⟩; obtain ⟨hc2, hf2⟩ := bcell hb2; have hz2_0 : w.heap.size < w2.heap.size := lt_below hb2 ltg; have hl2_0 := Nat.le_of_lt hz2_0; have hz2_1 : w.heap.size + 1 < w2.heap.size := lt_below hb2 ltg; have hl2_1 := Nat.le_of_lt hz2_1; have hz2_2 : w1.heap.size < w2.heap.size := lt_below hb2 ltg; have hl2_2 := Nat.le_of_lt hz2_2; have hA2 := bnext (w0 := w) bgo hb2; have hs2 := hA2.size; clear hb2)
    | (go_at_call 95; refine (c20 _).mono ?_; rintro x w3 ⟨rfl, hb3⟩; obtain ⟨hc3, hf3⟩ := bcell hb3; have hz3_0 : w.heap.size < w3.heap.size := lt_below hb3 ltg; have hl3_0 := Nat.le_of_lt hz3_0; have hz3_1 : w.heap.size + 1 < w3.heap.size := lt_below hb3 ltg; have hl3_1 := Nat.le_of_lt hz3_1; have hz3_2 : w1.heap.size < w3.heap.size := lt_below hb3 ltg; have hl3_2 := Nat.le_of_lt hz3_2; have hz3_3 : w2.heap.size < w3.heap.size := lt_below hb3 ltg; have hl3_3 := Nat.le_of_lt hz3_3; have hA3 := bnext (w0 := w) bgo hb3; have hs3 := hA3.size; clear hb3)
    | (go_at_call 96; refine (c21 _).mono ?_; rintro x w4 ⟨rfl, hb4⟩; obtain ⟨hc4, hf4⟩ := bcell hb4; have hz4_0 : w.heap.size < w4.heap.size := lt_below hb4 ltg; have hl4_0 := Nat.le_of_lt hz4_0; have hz4_1 : w.heap.size + 1 < w4.heap.size := lt_below hb4 ltg; have hl4_1 := Nat.le_of_lt hz4_1; have hz4_2 : w1.heap.size < w4.heap.size := lt_below hb4 ltg; have hl4_2 := Nat.le_of_lt hz4_2; have hz4_3 : w2.heap.size < w4.heap.size := lt_below hb4 ltg; have hl4_3 := Nat.le_of_lt hz4_3; have hA4 := bnext (w0 := w) bgo hb4; have hs4 := hA4.size; clear hb4))
  have hsm := cell_set_map
  exact bodyPost_ret (v := .tuple #[DV dc ds dg dx dk, .int .i64 0]) (by simp only [results, Tryz.results49]; go_simp) rfl ⟨rfl, bgo⟩
set_option maxHeartbeats 1000000 in
theorem unpack_sub (hE : (E == sp) = false) (hE0 : E = 0) :
    Calls Tryz.prog 49 #[.int .i64 n, A4 B] w fun x w' => x = .returned (.tuple #[DV 1 S false l Fr, .int .i64 0]) ∧ Below w.heap.size w w' := by
  subst hE0
  go_enter Tryz.func49, Tryz.ntmps49
  go_wp2_with (first
    | (go_at_call 93; refine (c18 _ ((hT.alloc _).alloc _)).mono ?_; rintro x w1 ⟨rfl, hb1⟩; obtain ⟨hc1, hf1⟩ := bcell hb1; have hz1_0 : w.heap.size < w1.heap.size := lt_below hb1 ltg; have hl1_0 := Nat.le_of_lt hz1_0; have hz1_1 : w.heap.size + 1 < w1.heap.size := lt_below hb1 ltg; have hl1_1 := Nat.le_of_lt hz1_1; have hA1 := bnext (w0 := w) bgo hb1; have hs1 := hA1.size; clear hb1)
    | (go_at_call 94; refine (c19 _).mono ?_; rintro x w2 ⟨rfl, hb2⟩; obtain ⟨hc2, hf2⟩ := bcell hb2; have hz2_0 : w.heap.size < w2.heap.size := lt_below hb2 ltg; have hl2_0 := Nat.le_of_lt hz2_0; have hz2_1 : w.heap.size + 1 < w2.heap.size := lt_below hb2 ltg; have hl2_1 := Nat.le_of_lt hz2_1; have hz2_2 : w1.heap.size < w2.heap.size := lt_below hb2 ltg; have hl2_2 := Nat.le_of_lt hz2_2; have hA2 := bnext (w0 := w) bgo hb2; have hs2 := hA2.size; clear hb2)
    | (go_at_call 95; refine (c20 _).mono ?_; rintro x w3 ⟨rfl, hb3⟩; obtain ⟨hc3, hf3⟩ := bcell hb3; have hz3_0 : w.heap.size < w3.heap.size := lt_below hb3 ltg; have hl3_0 := Nat.le_of_lt hz3_0; have hz3_1 : w.heap.size + 1 < w3.heap.size := lt_below hb3 ltg; have hl3_1 := Nat.le_of_lt hz3_1; have hz3_2 : w1.heap.size < w3.heap.size := lt_below hb3 ltg; have hl3_2 := Nat.le_of_lt hz3_2; have hz3_3 : w2.heap.size < w3.heap.size := lt_below hb3 ltg; have hl3_3 := Nat.le_of_lt hz3_3; have hA3 := bnext (w0 := w) bgo hb3; have hs3 := hA3.size; clear hb3))
  have hsm := cell_set_map
  exact bodyPost_ret (v := .tuple #[DV 1 S false l Fr, .int .i64 0]) (by simp only [results, Tryz.results49]; go_simp) rfl ⟨rfl, bgo⟩
set_option maxHeartbeats 2000000 in
theorem unpack_norm (Pw Co : Nat) (cr : Int) (hl : -1000000 ≤ l ∧ l ≤ 0) (hE : (E == sp) = false) (hE0 : 0 < E) (hE1 : E ≤ 32768)
    (c23 : ∀ w, Calls Tryz.prog 98 #[.int .i64 f] w fun x w' => x = .returned (A4 Pw) ∧ Below w.heap.size w w')
    (c22 : ∀ w, Calls Tryz.prog 97 #[A4 Fr, A4 Pw] w fun x w' => x = .returned (.tuple #[A4 Co, .int .u64 cr]) ∧ Below w.heap.size w w') :
    Calls Tryz.prog 49 #[.int .i64 n, A4 B] w fun x w' => x = .returned (.tuple #[DV 1 S false (l + (E - 1)) Co, .int .i64 0]) ∧ Below w.heap.size w w' := by
  go_enter Tryz.func49, Tryz.ntmps49
  go_wp2_with (first
    | (go_at_call 93; refine (c18 _ ((hT.alloc _).alloc _)).mono ?_; rintro x w1 ⟨rfl, hb1⟩; obtain ⟨hc1, hf1⟩ := bcell hb1; have hz1_0 : w.heap.size < w1.heap.size := lt_below hb1 ltg; have hl1_0 := Nat.le_of_lt hz1_0; have hz1_1 : w.heap.size + 1 < w1.heap.size := lt_below hb1 ltg; have hl1_1 := Nat.le_of_lt hz1_1; have hA1 := bnext (w0 := w) bgo hb1; have hs1 := hA1.size; clear hb1)
    | (go_at_call 94; refine (c19 _).mono ?_; rintro x w2 ⟨rfl, hb2⟩; obtain ⟨hc2, hf2⟩ := bcell hb2; have hz2_0 : w.heap.size < w2.heap.size := lt_below hb2 ltg; have hl2_0 := Nat.le_of_lt hz2_0; have hz2_1 : w.heap.size + 1 < w2.heap.size := lt_below hb2 ltg; have hl2_1 := Nat.le_of_lt hz2_1; have hz2_2 : w1.heap.size < w2.heap.size := lt_below hb2 ltg; have hl2_2 := Nat.le_of_lt hz2_2; have hA2 := bnext (w0 := w) bgo hb2; have hs2 := hA2.size; clear hb2)
    | (go_at_call 95; refine (c20 _).mono ?_; rintro x w3 ⟨rfl, hb3⟩; obtain ⟨hc3, hf3⟩ := bcell hb3; have hz3_0 : w.heap.size < w3.heap.size := lt_below hb3 ltg; have hl3_0 := Nat.le_of_lt hz3_0; have hz3_1 : w.heap.size + 1 < w3.heap.size := lt_below hb3 ltg; have hl3_1 := Nat.le_of_lt hz3_1; have hz3_2 : w1.heap.size < w3.heap.size := lt_below hb3 ltg; have hl3_2 := Nat.le_of_lt hz3_2; have hz3_3 : w2.heap.size < w3.heap.size := lt_below hb3 ltg; have hl3_3 := Nat.le_of_lt hz3_3; have hA3 := bnext (w0 := w) bgo hb3; have hs3 := hA3.size; clear hb3))
  have hn1 : w1.heap.size ≠ w.heap.size := by omega
  have hn2 : w1.heap.size ≠ w.heap.size + 1 := by omega
  have hn3 : w2.heap.size ≠ w1.heap.size := by omega
  refine wp_made 5 8 12 #[.int .u64 0, .int .u64 0, .int .u64 0, .int .u64 0] (by kernel_rfl) (by kernel_rfl) (by kernel_rfl) rfl (fun oa hoa a w => ?_) (by kernel_rfl) (by kernel_rfl) rfl rfl (fun _ _ d _ _ h => by cases d <;> exact h) ?_
  · cases hoa; exact ⟨24, by simp [go_sem]⟩
  apply Exists.intro
  refine ⟨fun al hne hcell => ?_, fun w4 hb4 => ?_, fun g w4 hb4 hg0 hg1 hg2 hg3 => ?_⟩
  · simp only [List.take_succ_cons, List.take_zero]
    repeat go_big_quiet_step (fail)
    go_big_quiet_step ((go_at_call 98; exact calls_wd _ al_next (c23 _)))
    repeat go_big_quiet_step (fail)
    go_big_quiet_step ((go_at_call 97; exact calls_wd _ al_next (c22 _)))
    exact wpQuiet_nil rfl
  · simp only [List.drop_succ_cons, List.drop_zero]
    obtain ⟨hc4, hf4⟩ := bcell hb4; have hz4_0 : w.heap.size < w4.heap.size := lt_below hb4 ltg; have hl4_0 := Nat.le_of_lt hz4_0; have hz4_1 : w.heap.size + 1 < w4.heap.size := lt_below hb4 ltg; have hl4_1 := Nat.le_of_lt hz4_1; have hz4_2 : w1.heap.size < w4.heap.size := lt_below hb4 ltg; have hl4_2 := Nat.le_of_lt hz4_2; have hz4_3 : w2.heap.size < w4.heap.size := lt_below hb4 ltg; have hl4_3 := Nat.le_of_lt hz4_3; have hz4_4 : w3.heap.size < w4.heap.size := lt_below hb4 ltg; have hl4_4 := Nat.le_of_lt hz4_4; have hA4 := bnext (w0 := w) bgo hb4; have hs4 := hA4.size; clear hb4
    have hsm := cell_set_map
    go_wp2
    exact bodyPost_ret (v := .tuple #[DV 1 S false (l + (E - 1)) Co, .int .i64 0]) (by simp only [results, Tryz.results49]; go_simp) rfl ⟨rfl, bgo⟩
  · simp only [List.drop_succ_cons, List.drop_zero, Nat.reduceSub, List.eraseIdx_cons_succ, List.eraseIdx_cons_zero]
    simp only [World.size_alloc] at hg0
    have hgw := hA3.size
    have hz0 : g ≠ w.heap.size := by omega
    have hz1 : g ≠ w.heap.size + 1 := by omega
    have hz2 : g ≠ w1.heap.size := by omega
    have hz3 : g ≠ w2.heap.size := by omega
    have hz4 : g ≠ w3.heap.size := by omega
    obtain ⟨hc4, hf4⟩ := bcell hb4; have hz4_0 : w.heap.size < w4.heap.size := lt_below hb4 ltg; have hl4_0 := Nat.le_of_lt hz4_0; have hz4_1 : w.heap.size + 1 < w4.heap.size := lt_below hb4 ltg; have hl4_1 := Nat.le_of_lt hz4_1; have hz4_2 : w1.heap.size < w4.heap.size := lt_below hb4 ltg; have hl4_2 := Nat.le_of_lt hz4_2; have hz4_3 : w2.heap.size < w4.heap.size := lt_below hb4 ltg; have hl4_3 := Nat.le_of_lt hz4_3; have hz4_4 : w3.heap.size < w4.heap.size := lt_below hb4 ltg; have hl4_4 := Nat.le_of_lt hz4_4; have hA4 := bnext (w0 := w) bgo hb4; have hs4 := hA4.size; clear hb4
    have hsm := cell_set_map
    go_wp2
    exact bodyPost_ret (v := .tuple #[DV 1 S false (l + (E - 1)) Co, .int .i64 0]) (by simp only [results, Tryz.results49]; go_simp) rfl ⟨rfl, bgo⟩
end
theorem unpack_ok (n : Int) (B : Nat) (w : World) (hT : Tab w) (hB : B < 2 ^ 256) (h : goodN n B) :
    Calls Tryz.prog 49 #[.int .i64 n, A4 B] w fun x w' => x = .returned (.tuple #[(unp (fN n) (eN n) (leastN n) B).v, .int .i64 0]) ∧ Below w.heap.size w w' := by
  have hF := bin_fm h.1
  have c18 := fun w hT => layoutFor_ok n B w hT hB h
  have c19 := fun w => split_any (fN n) (eN n) (leastN n) (mostN n) B w hF hB
  have c20 := fun w => special_any (fN n) (eN n) (leastN n) (mostN n) w hF
  have hf240 := hF.f240
  have hp := pow_e hF.e2 hF.e15
  have hpc : ((2 : Int) ^ eN n) = ((2 ^ eN n : Nat) : Int) := by simp
  have hmod : B / 2 ^ fN n % 2 ^ eN n < 2 ^ eN n := Nat.mod_lt _ (Nat.two_pow_pos _)
  have hfr : B % 2 ^ fN n < 2 ^ fN n := Nat.mod_lt _ (Nat.two_pow_pos _)
  have hf256 : 2 ^ fN n < 2 ^ 256 := Nat.pow_lt_pow_right (by decide) (by omega)
  unfold unp
  by_cases h1 : B / 2 ^ fN n % 2 ^ eN n = 2 ^ eN n - 1
  · rw [if_pos h1]
    exact unpack_sp n B _ _ _ _ w hT _ _ _ _ c18 c19 c20 _ (fun w => special_spc (fN n) (eN n) (leastN n) (mostN n) (sgB (fN n) (eN n) B) (B % 2 ^ fN n) w hF (by omega)) (by rw [h1]; simp)
  · rw [if_neg h1]
    have hE : (((B / 2 ^ fN n % 2 ^ eN n : Nat) : Int) == ((2 ^ eN n - 1 : Nat) : Int)) = false := by
      rw [beq_eq_false_iff_ne]; omega
    by_cases h2 : B / 2 ^ fN n % 2 ^ eN n = 0
    · rw [if_pos h2]
      exact unpack_sub n B _ _ _ _ w hT _ _ _ _ c18 c19 c20 hE (by omega)
    · rw [if_neg h2]
      have h256 : (2 : Nat) ^ 256 = 115792089237316195423570985008687907853269984665640564039457584007913129639936 := by decide
      exact unpack_norm n B _ _ _ _ w hT _ _ _ _ c18 c19 c20 (2 ^ fN n) (B % 2 ^ fN n + 2 ^ fN n) _ ⟨hF.l1, hF.l0⟩ hE (by omega) (by rw [hpc] at hp; omega) (fun w => power_any (fN n) w (by omega)) (fun w => add4 (B % 2 ^ fN n) (2 ^ fN n) w (by omega) hf256)
end
section
section
variable (f e : Nat) (l m : Int) (w : World) (E F Sh J Pw K : Nat) (cr cr' : Int)
  (c49 : ∀ w, Calls Tryz.prog 128 #[.int .u64 E] w fun x w' => x = .returned (A4 E) ∧ Below w.heap.size w w')
  (c45 : ∀ w, Calls Tryz.prog 127 #[A4 E, .int .i64 f] w fun x w' => x = .returned (A4 Sh) ∧ Below w.heap.size w w')
  (c22 : ∀ w, Calls Tryz.prog 97 #[A4 Sh, A4 F] w fun x w' => x = .returned (.tuple #[A4 J, .int .u64 cr]) ∧ Below w.heap.size w w')
include c49 c45 c22
set_option maxHeartbeats 1000000 in
theorem join_f : Calls Tryz.prog 122 #[LV f e l m, .bool false, .int .u64 E, A4 F] w fun x w' => x = .returned (A4 J) ∧ Below w.heap.size w w' := by
  generalize (E : Int) = Ei at *
  go_enter Tryz.func122, Tryz.ntmps122
  go_wp2
  refine wp_made 7 10 9 #[.int .u64 0, .int .u64 0, .int .u64 0, .int .u64 0] (by kernel_rfl) (by kernel_rfl) (by kernel_rfl) rfl (fun oa hoa a w => ?_) (by kernel_rfl) (by kernel_rfl) rfl rfl (fun _ _ d _ _ h => by cases d <;> exact h) ?_
  · cases hoa; exact ⟨24, by simp [go_sem]⟩
  apply Exists.intro
  refine ⟨fun al hne hcell => ?_, fun w1 hb1 => ?_, fun g w1 hb1 hg0 hg1 hg2 hg3 => ?_⟩
  · simp only [List.take_succ_cons, List.take_zero]
    repeat go_big_quiet_step (fail)
    go_big_quiet_step ((go_at_call 128; exact calls_wd _ al_next (c49 _)))
    repeat go_big_quiet_step (fail)
    go_big_quiet_step ((go_at_call 127; exact calls_wd _ al_next (c45 _)))
    repeat go_big_quiet_step (fail)
    go_big_quiet_step ((go_at_call 97; exact calls_wd _ al_next (c22 _)))
    exact wpQuiet_nil rfl
  · simp only [List.drop_succ_cons, List.drop_zero]
    obtain ⟨hc1, hf1⟩ := bcell hb1; have hz1_0 : w.heap.size < w1.heap.size := lt_below hb1 ltg; have hl1_0 := Nat.le_of_lt hz1_0; have hz1_1 : w.heap.size + 1 < w1.heap.size := lt_below hb1 ltg; have hl1_1 := Nat.le_of_lt hz1_1; have hz1_2 : w.heap.size + 1 + 1 < w1.heap.size := lt_below hb1 ltg; have hl1_2 := Nat.le_of_lt hz1_2; have hA1 := bnext (w0 := w) bgo hb1; have hs1 := hA1.size; clear hb1
    have hsm := cell_set_map
    go_wp2
    exact bodyPost_ret (v := A4 J) (by simp only [results, Tryz.results122]; go_simp) rfl ⟨rfl, bgo⟩
  · simp only [List.drop_succ_cons, List.drop_zero, Nat.reduceSub, List.eraseIdx_cons_succ, List.eraseIdx_cons_zero]
    simp only [World.size_alloc] at hg0
    have hz0 : g ≠ w.heap.size := by omega
    have hz1 : g ≠ w.heap.size + 1 := by omega
    have hz2 : g ≠ w.heap.size + 1 + 1 := by omega
    obtain ⟨hc1, hf1⟩ := bcell hb1; have hz1_0 : w.heap.size < w1.heap.size := lt_below hb1 ltg; have hl1_0 := Nat.le_of_lt hz1_0; have hz1_1 : w.heap.size + 1 < w1.heap.size := lt_below hb1 ltg; have hl1_1 := Nat.le_of_lt hz1_1; have hz1_2 : w.heap.size + 1 + 1 < w1.heap.size := lt_below hb1 ltg; have hl1_2 := Nat.le_of_lt hz1_2; have hA1 := bnext (w0 := w) bgo hb1; have hs1 := hA1.size; clear hb1
    have hsm := cell_set_map
    go_wp2
    exact bodyPost_ret (v := A4 J) (by simp only [results, Tryz.results122]; go_simp) rfl ⟨rfl, bgo⟩
set_option maxHeartbeats 2000000 in
theorem join_t (hf : f ≤ 240) (he : e ≤ 15)
  (c23 : ∀ w, Calls Tryz.prog 98 #[.int .i64 ((f : Int) + e)] w fun x w' => x = .returned (A4 Pw) ∧ Below w.heap.size w w')
  (c22b : ∀ w, Calls Tryz.prog 97 #[A4 J, A4 Pw] w fun x w' => x = .returned (.tuple #[A4 K, .int .u64 cr']) ∧ Below w.heap.size w w') :
    Calls Tryz.prog 122 #[LV f e l m, .bool true, .int .u64 E, A4 F] w fun x w' => x = .returned (A4 K) ∧ Below w.heap.size w w' := by
  generalize (E : Int) = Ei at *
  go_enter Tryz.func122, Tryz.ntmps122
  go_wp2
  refine wp_made 7 10 9 #[.int .u64 0, .int .u64 0, .int .u64 0, .int .u64 0] (by kernel_rfl) (by kernel_rfl) (by kernel_rfl) rfl (fun oa hoa a w => ?_) (by kernel_rfl) (by kernel_rfl) rfl rfl (fun _ _ d _ _ h => by cases d <;> exact h) ?_
  · cases hoa; exact ⟨24, by simp [go_sem]⟩
  apply Exists.intro
  refine ⟨fun al hne hcell => ?_, fun w1 hb1 => ?_, fun g w1 hb1 hg0 hg1 hg2 hg3 => ?_⟩
  · simp only [List.take_succ_cons, List.take_zero]
    repeat go_big_quiet_step (fail)
    go_big_quiet_step ((go_at_call 128; exact calls_wd _ al_next (c49 _)))
    repeat go_big_quiet_step (fail)
    go_big_quiet_step ((go_at_call 127; exact calls_wd _ al_next (c45 _)))
    repeat go_big_quiet_step (fail)
    go_big_quiet_step ((go_at_call 97; exact calls_wd _ al_next (c22 _)))
    exact wpQuiet_nil rfl
  · simp only [List.drop_succ_cons, List.drop_zero]
    obtain ⟨hc1, hf1⟩ := bcell hb1; have hz1_0 : w.heap.size < w1.heap.size := lt_below hb1 ltg; have hl1_0 := Nat.le_of_lt hz1_0; have hz1_1 : w.heap.size + 1 < w1.heap.size := lt_below hb1 ltg; have hl1_1 := Nat.le_of_lt hz1_1; have hz1_2 : w.heap.size + 1 + 1 < w1.heap.size := lt_below hb1 ltg; have hl1_2 := Nat.le_of_lt hz1_2; have hA1 := bnext (w0 := w) bgo hb1; have hs1 := hA1.size; clear hb1
    have hsm := cell_set_map
    go_wp2
    refine wp_tail 8 (by kernel_rfl) (by kernel_rfl) (by kernel_rfl) (fun _ _ d _ _ h => by cases d <;> exact h) fun hne hcell => ?_
    simp only [List.take_succ_cons, List.take_zero, List.drop_succ_cons, List.drop_zero]
    repeat go_big_quiet_step (fail)
    go_big_quiet_step ((go_at_call 98; exact calls_wd _ bk_next (c23 _)))
    repeat go_big_quiet_step (fail)
    go_big_quiet_step ((go_at_call 97; exact calls_wd _ bk_next (c22b _)))
    refine wpQuiet_nil fun w2 hb2 => ?_
    obtain ⟨hc2, hf2⟩ := bcell hb2; have hz2_0 : w.heap.size < w2.heap.size := lt_below hb2 ltg; have hl2_0 := Nat.le_of_lt hz2_0; have hz2_1 : w.heap.size + 1 < w2.heap.size := lt_below hb2 ltg; have hl2_1 := Nat.le_of_lt hz2_1; have hz2_2 : w.heap.size + 1 + 1 < w2.heap.size := lt_below hb2 ltg; have hl2_2 := Nat.le_of_lt hz2_2; have hz2_3 : w1.heap.size < w2.heap.size := lt_below hb2 ltg; have hl2_3 := Nat.le_of_lt hz2_3; have hA2 := bnext (w0 := w) bgo hb2; have hs2 := hA2.size; clear hb2
    go_wp2
    exact bodyPost_ret (v := A4 K) (by simp only [results, Tryz.results122]; go_simp) rfl ⟨rfl, bgo⟩
  · simp only [List.drop_succ_cons, List.drop_zero, Nat.reduceSub, List.eraseIdx_cons_succ, List.eraseIdx_cons_zero]
    simp only [World.size_alloc] at hg0
    have hz0 : g ≠ w.heap.size := by omega
    have hz1 : g ≠ w.heap.size + 1 := by omega
    have hz2 : g ≠ w.heap.size + 1 + 1 := by omega
    obtain ⟨hc1, hf1⟩ := bcell hb1; have hz1_0 : w.heap.size < w1.heap.size := lt_below hb1 ltg; have hl1_0 := Nat.le_of_lt hz1_0; have hz1_1 : w.heap.size + 1 < w1.heap.size := lt_below hb1 ltg; have hl1_1 := Nat.le_of_lt hz1_1; have hz1_2 : w.heap.size + 1 + 1 < w1.heap.size := lt_below hb1 ltg; have hl1_2 := Nat.le_of_lt hz1_2; have hA1 := bnext (w0 := w) bgo hb1; have hs1 := hA1.size; clear hb1
    have hsm := cell_set_map
    go_wp2
    refine wp_tail 8 (by kernel_rfl) (by kernel_rfl) (by kernel_rfl) (fun _ _ d _ _ h => by cases d <;> exact h) fun hne hcell => ?_
    simp only [List.take_succ_cons, List.take_zero, List.drop_succ_cons, List.drop_zero]
    repeat go_big_quiet_step (fail)
    go_big_quiet_step ((go_at_call 98; exact calls_wd _ bk_next (c23 _)))
    repeat go_big_quiet_step (fail)
    go_big_quiet_step ((go_at_call 97; exact calls_wd _ bk_next (c22b _)))
    refine wpQuiet_nil fun w2 hb2 => ?_
    obtain ⟨hc2, hf2⟩ := bcell hb2; have hz2_0 : w.heap.size < w2.heap.size := lt_below hb2 ltg; have hl2_0 := Nat.le_of_lt hz2_0; have hz2_1 : w.heap.size + 1 < w2.heap.size := lt_below hb2 ltg; have hl2_1 := Nat.le_of_lt hz2_1; have hz2_2 : w.heap.size + 1 + 1 < w2.heap.size := lt_below hb2 ltg; have hl2_2 := Nat.le_of_lt hz2_2; have hz2_3 : g < w2.heap.size := lt_below hb2 ltg; have hl2_3 := Nat.le_of_lt hz2_3; have hA2 := bnext (w0 := w) bgo hb2; have hs2 := hA2.size; clear hb2
    go_wp2
    exact bodyPost_ret (v := A4 K) (by simp only [results, Tryz.results122]; go_simp) rfl ⟨rfl, bgo⟩
end
theorem join_any (f e : Nat) (l m : Int) (s : Bool) (E F : Nat) (w : World) (h : Fm f e l m) (hE : E ≤ 2 ^ e) (hF : F < 2 ^ (f + 1)) :
    Calls Tryz.prog 122 #[LV f e l m, .bool s, .int .u64 E, A4 F] w fun x w' => x = .returned (A4 (E * 2 ^ f + F + if s then 2 ^ (f + e) else 0)) ∧ Below w.heap.size w w' := by
  have h2 := h.e2
  have h15 := h.e15
  have hf := h.f240
  have hfe := h.fe
  have hp := pow_e h2 h15
  have hpc : ((2 : Int) ^ e) = ((2 ^ e : Nat) : Int) := by simp
  rw [hpc] at hp
  have hE1 : E < 18446744073709551616 := by omega
  have a1 : E * 2 ^ f ≤ 2 ^ 255 := Nat.le_trans (Nat.mul_le_mul_right _ hE) (by rw [← Nat.pow_add]; exact Nat.pow_le_pow_right (by decide) (by omega))
  have a2 : 2 ^ (f + 1) ≤ 2 ^ 241 := Nat.pow_le_pow_right (by decide) (by omega)
  have a3 : 2 ^ (f + e) ≤ 2 ^ 255 := Nat.pow_le_pow_right (by decide) (by omega)
  have e255 : (2 : Nat) ^ 255 = 57896044618658097711785492504343953926634992332820282019728792003956564819968 := by decide
  have e241 : (2 : Nat) ^ 241 = 3533694129556768659166595001485837031654967793751237916243212402585239552 := by decide
  have e256 : (2 : Nat) ^ 256 = 115792089237316195423570985008687907853269984665640564039457584007913129639936 := by decide
  have c49 := fun w => of4 E w hE1
  have c45 := fun w => shl4 E f w (by omega) (by omega)
  have c22 := fun w => add4 (E * 2 ^ f) F w (by omega) (by omega)
  cases s with
  | false => exact join_f f e l m w E F _ _ _ c49 c45 c22
  | true =>
    have c23 := fun w => power_any (f + e) w (by omega)
    rw [Int.natCast_add] at c23
    exact join_t f e l m w E F _ _ _ _ _ _ c49 c45 c22 hf h15 c23 (fun w => add4 (E * 2 ^ f + F) (2 ^ (f + e)) w (by omega) (by omega))
end
section
abbrev Z4 : Value := .agg #[.int .u64 0, .int .u64 0, .int .u64 0, .int .u64 0]
theorem Z4_eq : A4 0 = Z4 := by unfold A4 Z4; simp only [W4_zero]

section
variable (f e : Nat) (l m : Int) (w : World) (c x : Int) (s : Bool) (k : Nat) (L : Int) (hf : f ≤ 240)
  (c46 : ∀ w, Calls Tryz.prog 121 #[A4 k] w fun x w' => x = .returned (.int .i64 L) ∧ Below w.heap.size w w')
include hf c46
set_option maxHeartbeats 1000000 in
theorem packFin_g : Calls Tryz.prog 90 #[LV f e l m, DV c s true x k] w fun x w' => x = .returned (.tuple #[Z4, .int .i64 3]) ∧ Below w.heap.size w w' := by
  go_enter Tryz.func90, Tryz.ntmps90
  go_wp2_with (go_at_call 121; refine (c46 _).mono ?_; rintro x w1 ⟨rfl, hb1⟩; obtain ⟨hc1, hf1⟩ := bcell hb1; have hz1_0 : w.heap.size < w1.heap.size := lt_below hb1 ltg; have hl1_0 := Nat.le_of_lt hz1_0; have hz1_1 : w.heap.size + 1 < w1.heap.size := lt_below hb1 ltg; have hl1_1 := Nat.le_of_lt hz1_1; have hz1_2 : w.heap.size + 1 + 1 < w1.heap.size := lt_below hb1 ltg; have hl1_2 := Nat.le_of_lt hz1_2; have hz1_3 : w.heap.size + 1 + 1 + 1 < w1.heap.size := lt_below hb1 ltg; have hl1_3 := Nat.le_of_lt hz1_3; have hA1 := bnext (w0 := w) bgo hb1; have hs1 := hA1.size; clear hb1)
  have hsm := cell_set_map
  exact bodyPost_ret (v := .tuple #[Z4, .int .i64 3]) (by simp only [results, Tryz.results90]; go_simp) rfl ⟨rfl, bgo⟩
set_option maxHeartbeats 1000000 in
theorem packFin_1 (hL : (f : Int) + 1 < L) : Calls Tryz.prog 90 #[LV f e l m, DV c s false x k] w fun x w' => x = .returned (.tuple #[Z4, .int .i64 3]) ∧ Below w.heap.size w w' := by
  go_enter Tryz.func90, Tryz.ntmps90
  go_wp2_with (go_at_call 121; refine (c46 _).mono ?_; rintro x w1 ⟨rfl, hb1⟩; obtain ⟨hc1, hf1⟩ := bcell hb1; have hz1_0 : w.heap.size < w1.heap.size := lt_below hb1 ltg; have hl1_0 := Nat.le_of_lt hz1_0; have hz1_1 : w.heap.size + 1 < w1.heap.size := lt_below hb1 ltg; have hl1_1 := Nat.le_of_lt hz1_1; have hz1_2 : w.heap.size + 1 + 1 < w1.heap.size := lt_below hb1 ltg; have hl1_2 := Nat.le_of_lt hz1_2; have hz1_3 : w.heap.size + 1 + 1 + 1 < w1.heap.size := lt_below hb1 ltg; have hl1_3 := Nat.le_of_lt hz1_3; have hA1 := bnext (w0 := w) bgo hb1; have hs1 := hA1.size; clear hb1)
  have hsm := cell_set_map
  exact bodyPost_ret (v := .tuple #[Z4, .int .i64 3]) (by simp only [results, Tryz.results90]; go_simp) rfl ⟨rfl, bgo⟩
set_option maxHeartbeats 1000000 in
theorem packFin_2 (hL : ¬ (f : Int) + 1 < L) (hx : x < l) : Calls Tryz.prog 90 #[LV f e l m, DV c s false x k] w fun x w' => x = .returned (.tuple #[Z4, .int .i64 3]) ∧ Below w.heap.size w w' := by
  go_enter Tryz.func90, Tryz.ntmps90
  go_wp2_with (go_at_call 121; refine (c46 _).mono ?_; rintro x w1 ⟨rfl, hb1⟩; obtain ⟨hc1, hf1⟩ := bcell hb1; have hz1_0 : w.heap.size < w1.heap.size := lt_below hb1 ltg; have hl1_0 := Nat.le_of_lt hz1_0; have hz1_1 : w.heap.size + 1 < w1.heap.size := lt_below hb1 ltg; have hl1_1 := Nat.le_of_lt hz1_1; have hz1_2 : w.heap.size + 1 + 1 < w1.heap.size := lt_below hb1 ltg; have hl1_2 := Nat.le_of_lt hz1_2; have hz1_3 : w.heap.size + 1 + 1 + 1 < w1.heap.size := lt_below hb1 ltg; have hl1_3 := Nat.le_of_lt hz1_3; have hA1 := bnext (w0 := w) bgo hb1; have hs1 := hA1.size; clear hb1)
  have hsm := cell_set_map
  exact bodyPost_ret (v := .tuple #[Z4, .int .i64 3]) (by simp only [results, Tryz.results90]; go_simp) rfl ⟨rfl, bgo⟩
set_option maxHeartbeats 1000000 in
theorem packFin_3 (hL : ¬ (f : Int) + 1 < L) (hx : ¬ x < l) (hm : m < x) : Calls Tryz.prog 90 #[LV f e l m, DV c s false x k] w fun x w' => x = .returned (.tuple #[Z4, .int .i64 3]) ∧ Below w.heap.size w w' := by
  go_enter Tryz.func90, Tryz.ntmps90
  go_wp2_with (go_at_call 121; refine (c46 _).mono ?_; rintro x w1 ⟨rfl, hb1⟩; obtain ⟨hc1, hf1⟩ := bcell hb1; have hz1_0 : w.heap.size < w1.heap.size := lt_below hb1 ltg; have hl1_0 := Nat.le_of_lt hz1_0; have hz1_1 : w.heap.size + 1 < w1.heap.size := lt_below hb1 ltg; have hl1_1 := Nat.le_of_lt hz1_1; have hz1_2 : w.heap.size + 1 + 1 < w1.heap.size := lt_below hb1 ltg; have hl1_2 := Nat.le_of_lt hz1_2; have hz1_3 : w.heap.size + 1 + 1 + 1 < w1.heap.size := lt_below hb1 ltg; have hl1_3 := Nat.le_of_lt hz1_3; have hA1 := bnext (w0 := w) bgo hb1; have hs1 := hA1.size; clear hb1)
  have hsm := cell_set_map
  exact bodyPost_ret (v := .tuple #[Z4, .int .i64 3]) (by simp only [results, Tryz.results90]; go_simp) rfl ⟨rfl, bgo⟩
set_option maxHeartbeats 1000000 in
theorem packFin_4 (hL : ¬ (f : Int) + 1 < L) (hx : ¬ x < l) (hm : ¬ m < x) (hL2 : L ≤ f) (hxl : x ≠ l) : Calls Tryz.prog 90 #[LV f e l m, DV c s false x k] w fun x w' => x = .returned (.tuple #[Z4, .int .i64 3]) ∧ Below w.heap.size w w' := by
  go_enter Tryz.func90, Tryz.ntmps90
  go_wp2_with (go_at_call 121; refine (c46 _).mono ?_; rintro x w1 ⟨rfl, hb1⟩; obtain ⟨hc1, hf1⟩ := bcell hb1; have hz1_0 : w.heap.size < w1.heap.size := lt_below hb1 ltg; have hl1_0 := Nat.le_of_lt hz1_0; have hz1_1 : w.heap.size + 1 < w1.heap.size := lt_below hb1 ltg; have hl1_1 := Nat.le_of_lt hz1_1; have hz1_2 : w.heap.size + 1 + 1 < w1.heap.size := lt_below hb1 ltg; have hl1_2 := Nat.le_of_lt hz1_2; have hz1_3 : w.heap.size + 1 + 1 + 1 < w1.heap.size := lt_below hb1 ltg; have hl1_3 := Nat.le_of_lt hz1_3; have hA1 := bnext (w0 := w) bgo hb1; have hs1 := hA1.size; clear hb1)
  have hsm := cell_set_map
  exact bodyPost_ret (v := .tuple #[Z4, .int .i64 3]) (by simp only [results, Tryz.results90]; go_simp) rfl ⟨rfl, bgo⟩
set_option maxHeartbeats 1000000 in
theorem packFin_ok (R : Nat) (hL : ¬ (f : Int) + 1 < L) (hx : ¬ x < l) (hm : ¬ m < x) (hl : -1000000 ≤ l ∧ l ≤ 0) (hm2 : m ≤ 1000000) (h : ¬ L ≤ f ∨ (L ≤ f ∧ x = l))
    (c40 : ∀ w, Calls Tryz.prog 122 #[LV f e l m, .bool s, .int .u64 (x - l), A4 k] w fun x w' => x = .returned (A4 R) ∧ Below w.heap.size w w') :
    Calls Tryz.prog 90 #[LV f e l m, DV c s false x k] w fun x w' => x = .returned (.tuple #[A4 R, .int .i64 0]) ∧ Below w.heap.size w w' := by
  rcases h with h | ⟨h, rfl⟩
  · go_enter Tryz.func90, Tryz.ntmps90
    go_wp2_with (first
      | (go_at_call 121; refine (c46 _).mono ?_; rintro x w1 ⟨rfl, hb1⟩; obtain ⟨hc1, hf1⟩ := bcell hb1; have hz1_0 : w.heap.size < w1.heap.size := lt_below hb1 ltg; have hl1_0 := Nat.le_of_lt hz1_0; have hz1_1 : w.heap.size + 1 < w1.heap.size := lt_below hb1 ltg; have hl1_1 := Nat.le_of_lt hz1_1; have hz1_2 : w.heap.size + 1 + 1 < w1.heap.size := lt_below hb1 ltg; have hl1_2 := Nat.le_of_lt hz1_2; have hz1_3 : w.heap.size + 1 + 1 + 1 < w1.heap.size := lt_below hb1 ltg; have hl1_3 := Nat.le_of_lt hz1_3; have hA1 := bnext (w0 := w) bgo hb1; have hs1 := hA1.size; clear hb1)
      | (go_at_call 122; refine (c40 _).mono ?_; rintro x w2 ⟨rfl, hb2⟩; obtain ⟨hc2, hf2⟩ := bcell hb2; have hz2_0 : w.heap.size < w2.heap.size := lt_below hb2 ltg; have hl2_0 := Nat.le_of_lt hz2_0; have hz2_1 : w.heap.size + 1 < w2.heap.size := lt_below hb2 ltg; have hl2_1 := Nat.le_of_lt hz2_1; have hz2_2 : w.heap.size + 1 + 1 < w2.heap.size := lt_below hb2 ltg; have hl2_2 := Nat.le_of_lt hz2_2; have hz2_3 : w.heap.size + 1 + 1 + 1 < w2.heap.size := lt_below hb2 ltg; have hl2_3 := Nat.le_of_lt hz2_3; have hA2 := bnext (w0 := w) bgo hb2; have hs2 := hA2.size; clear hb2))
    have hsm := cell_set_map
    exact bodyPost_ret (v := .tuple #[A4 R, .int .i64 0]) (by simp only [results, Tryz.results90]; go_simp) rfl ⟨rfl, bgo⟩
  · rw [Int.sub_self] at c40
    go_enter Tryz.func90, Tryz.ntmps90
    go_wp2_with (first
      | (go_at_call 121; refine (c46 _).mono ?_; rintro x w1 ⟨rfl, hb1⟩; obtain ⟨hc1, hf1⟩ := bcell hb1; have hz1_0 : w.heap.size < w1.heap.size := lt_below hb1 ltg; have hl1_0 := Nat.le_of_lt hz1_0; have hz1_1 : w.heap.size + 1 < w1.heap.size := lt_below hb1 ltg; have hl1_1 := Nat.le_of_lt hz1_1; have hz1_2 : w.heap.size + 1 + 1 < w1.heap.size := lt_below hb1 ltg; have hl1_2 := Nat.le_of_lt hz1_2; have hz1_3 : w.heap.size + 1 + 1 + 1 < w1.heap.size := lt_below hb1 ltg; have hl1_3 := Nat.le_of_lt hz1_3; have hA1 := bnext (w0 := w) bgo hb1; have hs1 := hA1.size; clear hb1)
      | (go_at_call 122; refine (c40 _).mono ?_; rintro x w2 ⟨rfl, hb2⟩; obtain ⟨hc2, hf2⟩ := bcell hb2; have hz2_0 : w.heap.size < w2.heap.size := lt_below hb2 ltg; have hl2_0 := Nat.le_of_lt hz2_0; have hz2_1 : w.heap.size + 1 < w2.heap.size := lt_below hb2 ltg; have hl2_1 := Nat.le_of_lt hz2_1; have hz2_2 : w.heap.size + 1 + 1 < w2.heap.size := lt_below hb2 ltg; have hl2_2 := Nat.le_of_lt hz2_2; have hz2_3 : w.heap.size + 1 + 1 + 1 < w2.heap.size := lt_below hb2 ltg; have hl2_3 := Nat.le_of_lt hz2_3; have hA2 := bnext (w0 := w) bgo hb2; have hs2 := hA2.size; clear hb2))
    have hsm := cell_set_map
    exact bodyPost_ret (v := .tuple #[A4 R, .int .i64 0]) (by simp only [results, Tryz.results90]; go_simp) rfl ⟨rfl, bgo⟩
end

/-- is a datum the format's? -/
def isD (f : Nat) (l m : Int) (d : Dat) : Prop :=
  (d.c = 1 ∧ d.g = false ∧ d.k < 2 ^ (f + 1) ∧ l ≤ d.x ∧ d.x ≤ m ∧ (2 ^ f ≤ d.k ∨ d.x = l)) ∨
  (d.c = 2 ∧ d.g = false ∧ d.x = 0 ∧ d.k = 0) ∨
  (d.c = 3 ∧ d.x = 0 ∧ d.k < 2 ^ (f - 1) ∧ (d.k ≠ 0 ∨ d.g = false))
instance (f : Nat) (l m : Int) (d : Dat) : Decidable (isD f l m d) := inferInstanceAs (Decidable (_ ∨ _ ∨ _))
/-- the pattern that means it -/
def pk (f e : Nat) (l : Int) (d : Dat) : Nat :=
  (if d.c = 1 then (d.x - l).toNat * 2 ^ f + d.k else if d.c = 2 then (2 ^ e - 1) * 2 ^ f + 0 else (2 ^ e - 1) * 2 ^ f + (if d.g then d.k else d.k + 2 ^ (f - 1))) + if d.s then 2 ^ (f + e) else 0

theorem packFinite_any (f e : Nat) (l m : Int) (w : World) (s g : Bool) (x : Int) (k : Nat) (h : Fm f e l m) (hk : k < 2 ^ 256) :
    Calls Tryz.prog 90 #[LV f e l m, DV 1 s g x k] w fun r w' => r = .returned (if isD f l m ⟨1, s, g, x, k⟩ then .tuple #[A4 (pk f e l ⟨1, s, g, x, k⟩), .int .i64 0] else .tuple #[Z4, .int .i64 3]) ∧ Below w.heap.size w w' := by
  have hf := h.f240
  have hp := pow_e h.e2 h.e15
  have hm := h.m
  have c46 := fun w => len4' k w
  have hL1 := len4_le (k := f + 1) hk
  have hL0 := len4_le (k := f) hk
  have e1 : ((f + 1 : Nat) : Int) = (f : Int) + 1 := by omega
  rw [e1] at hL1
  cases g with
  | true =>
    rw [if_neg (by unfold isD; simp)]
    exact packFin_g f e l m w 1 x s k _ hf c46
  | false =>
    by_cases h1 : k < 2 ^ (f + 1)
    · have hA : ¬ (f : Int) + 1 < lenL (W4 k) 4 := Int.not_lt.2 (hL1.2 h1)
      by_cases h2 : x < l
      · rw [if_neg (by unfold isD; simp; omega)]
        exact packFin_2 f e l m w 1 x s k _ hf c46 hA h2
      · by_cases h3 : m < x
        · rw [if_neg (by unfold isD; simp; omega)]
          exact packFin_3 f e l m w 1 x s k _ hf c46 hA h2 h3
        · by_cases h4 : k < 2 ^ f ∧ x ≠ l
          · rw [if_neg (by unfold isD; simp; omega)]
            exact packFin_4 f e l m w 1 x s k _ hf c46 hA h2 h3 (hL0.2 h4.1) h4.2
          · rw [if_pos (by unfold isD; refine Or.inl ⟨rfl, rfl, h1, ?_, ?_, ?_⟩ <;> simp only [] <;> omega)]
            have hE : ((x - l).toNat : Int) = x - l := by omega
            have hpc : ((2 : Int) ^ e) = ((2 ^ e : Nat) : Int) := by simp
            have c40 := fun w => join_any f e l m s (x - l).toNat k w h (by rw [hpc] at hm; omega) h1
            rw [hE] at c40
            refine packFin_ok f e l m w 1 x s k _ hf c46 _ hA h2 h3 ⟨h.l1, h.l0⟩ (by have := h.l0; omega) ?_ c40
            by_cases h5 : k < 2 ^ f
            · exact Or.inr ⟨hL0.2 h5, by omega⟩
            · exact Or.inl fun h6 => h5 (hL0.1 h6)
    · rw [if_neg (by unfold isD; simp; omega)]
      have hB : (f : Int) + 1 < lenL (W4 k) 4 := Int.not_le.1 fun h6 => h1 (hL1.1 h6)
      exact packFin_1 f e l m w 1 x s k _ hf c46 hB
end
theorem eq24d (d : Nat) (a0 a1 a2 a3 b0 b1 b2 b3 : Int) (w : World) :
    Sem.run Tryz.prog (Op.equalIn (d + 2) 25 (.agg #[.int .u64 a0, .int .u64 a1, .int .u64 a2, .int .u64 a3]) (.agg #[.int .u64 b0, .int .u64 b1, .int .u64 b2, .int .u64 b3])) w = .ok (decide (a0 = b0 ∧ a1 = b1 ∧ a2 = b2 ∧ a3 = b3)) w := by
  obtain ⟨i22, hi⟩ : ∃ i, Tryz.prog.info? 23 = some i := ⟨_, rfl⟩
  have h := run_equalIn_array (P := Tryz.prog) w (d + 1) (t := 25) (e := 23) (n := 4) #[.int .u64 a0, .int .u64 a1, .int .u64 a2, .int .u64 a3] #[.int .u64 b0, .int .u64 b1, .int .u64 b2, .int .u64 b3] (by kernel_rfl) hi
  refine h.trans ?_
  have hc : Tryz.prog.cellsOf 23 = 1 := by kernel_rfl
  rw [hc]
  simp [List.range_succ, Op.eqItems, go_sem]
  by_cases h0 : a0 = b0 <;> by_cases h1 : a1 = b1 <;> by_cases h2 : a2 = b2 <;> by_cases h3 : a3 = b3 <;> simp [h0, h1, h2, h3]
theorem eq24 (a0 a1 a2 a3 b0 b1 b2 b3 : Int) (w : World) :
    Sem.run Tryz.prog (Op.equalIn 10000 25 (.agg #[.int .u64 a0, .int .u64 a1, .int .u64 a2, .int .u64 a3]) (.agg #[.int .u64 b0, .int .u64 b1, .int .u64 b2, .int .u64 b3])) w = .ok (decide (a0 = b0 ∧ a1 = b1 ∧ a2 = b2 ∧ a3 = b3)) w :=
  eq24d 9998 a0 a1 a2 a3 b0 b1 b2 b3 w
section
section
variable (f e : Nat) (l m : Int) (w : World) (c x : Int) (s : Bool) (k : Nat)
set_option maxHeartbeats 1000000 in
theorem packInf_g : Calls Tryz.prog 91 #[LV f e l m, DV c s true x k] w fun x w' => x = .returned (.tuple #[Z4, .int .i64 3]) ∧ Below w.heap.size w w' := by
  go_enter Tryz.func91, Tryz.ntmps91
  go_wp2
  have hsm := cell_set_map
  exact bodyPost_ret (v := .tuple #[Z4, .int .i64 3]) (by simp only [results, Tryz.results91]; go_simp) rfl ⟨rfl, bgo⟩
set_option maxHeartbeats 1000000 in
theorem packInf_x (hx : (x != 0) = true) : Calls Tryz.prog 91 #[LV f e l m, DV c s false x k] w fun x w' => x = .returned (.tuple #[Z4, .int .i64 3]) ∧ Below w.heap.size w w' := by
  go_enter Tryz.func91, Tryz.ntmps91
  go_wp2
  have hsm := cell_set_map
  exact bodyPost_ret (v := .tuple #[Z4, .int .i64 3]) (by simp only [results, Tryz.results91]; go_simp) rfl ⟨rfl, bgo⟩
set_option maxHeartbeats 1000000 in
theorem packInf_k (hk : decide (W4 k 0 = 0 ∧ W4 k 1 = 0 ∧ W4 k 2 = 0 ∧ W4 k 3 = 0) = false) : Calls Tryz.prog 91 #[LV f e l m, DV c s false 0 k] w fun x w' => x = .returned (.tuple #[Z4, .int .i64 3]) ∧ Below w.heap.size w w' := by
  have h24 := eq24 (W4 k 0) (W4 k 1) (W4 k 2) (W4 k 3) 0 0 0 0
  rw [hk] at h24
  clear hk
  go_enter Tryz.func91, Tryz.ntmps91
  go_wp2
  have hsm := cell_set_map
  exact bodyPost_ret (v := .tuple #[Z4, .int .i64 3]) (by simp only [results, Tryz.results91]; go_simp) rfl ⟨rfl, bgo⟩
set_option maxHeartbeats 1000000 in
theorem packInf_ok (sp : Int) (R : Nat)
    (c20 : ∀ w, Calls Tryz.prog 95 #[LV f e l m] w fun x w' => x = .returned (.int .u64 sp) ∧ Below w.heap.size w w')
    (c40 : ∀ w, Calls Tryz.prog 122 #[LV f e l m, .bool s, .int .u64 sp, Z4] w fun x w' => x = .returned (A4 R) ∧ Below w.heap.size w w') :
    Calls Tryz.prog 91 #[LV f e l m, .agg #[.int .i64 c, .bool s, .bool false, .int .i64 0, .int .u64 0, .int .u64 0, .int .u64 0, .int .u64 0]] w fun x w' => x = .returned (.tuple #[A4 R, .int .i64 0]) ∧ Below w.heap.size w w' := by
  have h24 := eq24 0 0 0 0 0 0 0 0
  rw [decide_eq_true (by decide)] at h24
  go_enter Tryz.func91, Tryz.ntmps91
  go_wp2
  refine wp_tail 7 (by kernel_rfl) (by kernel_rfl) (by kernel_rfl) (fun _ _ d _ _ h => by cases d <;> exact h) fun hne hcell => ?_
  simp only [List.take_succ_cons, List.take_zero, List.drop_succ_cons, List.drop_zero]
  repeat go_big_quiet_step (fail)
  go_big_quiet_step ((go_at_call 95; exact calls_wd _ bk_next (c20 _)))
  repeat go_big_quiet_step (fail)
  go_big_quiet_step ((go_at_call 122; exact calls_wd _ bk_next (c40 _)))
  refine wpQuiet_nil fun w1 hb1 => ?_
  obtain ⟨hc1, hf1⟩ := bcell hb1; have hz1_0 : w.heap.size < w1.heap.size := lt_below hb1 ltg; have hl1_0 := Nat.le_of_lt hz1_0; have hz1_1 : w.heap.size + 1 < w1.heap.size := lt_below hb1 ltg; have hl1_1 := Nat.le_of_lt hz1_1; have hz1_2 : w.heap.size + 1 + 1 < w1.heap.size := lt_below hb1 ltg; have hl1_2 := Nat.le_of_lt hz1_2; have hA1 := bnext (w0 := w) bgo hb1; have hs1 := hA1.size; clear hb1
  have hsm := cell_set_map
  go_wp2
  exact bodyPost_ret (v := .tuple #[A4 R, .int .i64 0]) (by simp only [results, Tryz.results91]; go_simp) rfl ⟨rfl, bgo⟩
end
end
section
section
variable (f e : Nat) (l m : Int) (w : World) (c x : Int) (s g : Bool) (k : Nat) (L : Int) (hf : 2 ≤ f ∧ f ≤ 240)
  (c46 : ∀ w, Calls Tryz.prog 121 #[A4 k] w fun x w' => x = .returned (.int .i64 L) ∧ Below w.heap.size w w')
include hf c46
set_option maxHeartbeats 1000000 in
theorem packNaN_x (hx : (x != 0) = true) : Calls Tryz.prog 92 #[LV f e l m, DV c s g x k] w fun x w' => x = .returned (.tuple #[Z4, .int .i64 3]) ∧ Below w.heap.size w w' := by
  go_enter Tryz.func92, Tryz.ntmps92
  go_wp2
  refine wp_whole (by kernel_rfl) (by kernel_rfl) fun hne hcell => ?_
  repeat go_big_quiet_step (fail)
  refine wpQuiet_nil fun w1 hb1 => ?_
  obtain ⟨hc1, hf1⟩ := bcell hb1; have hz1_0 : w.heap.size < w1.heap.size := lt_below hb1 ltg; have hl1_0 := Nat.le_of_lt hz1_0; have hz1_1 : w.heap.size + 1 < w1.heap.size := lt_below hb1 ltg; have hl1_1 := Nat.le_of_lt hz1_1; have hz1_2 : w.heap.size + 1 + 1 < w1.heap.size := lt_below hb1 ltg; have hl1_2 := Nat.le_of_lt hz1_2; have hz1_3 : w.heap.size + 1 + 1 + 1 < w1.heap.size := lt_below hb1 ltg; have hl1_3 := Nat.le_of_lt hz1_3; have hA1 := bnext (w0 := w) bgo hb1; have hs1 := hA1.size; clear hb1
  have hsm := cell_set_map
  go_wp2
  exact bodyPost_ret (v := .tuple #[Z4, .int .i64 3]) (by simp only [results, Tryz.results92]; go_simp) rfl ⟨rfl, bgo⟩
set_option maxHeartbeats 1000000 in
theorem packNaN_len (hL : (f : Int) - 1 < L) : Calls Tryz.prog 92 #[LV f e l m, DV c s g 0 k] w fun x w' => x = .returned (.tuple #[Z4, .int .i64 3]) ∧ Below w.heap.size w w' := by
  go_enter Tryz.func92, Tryz.ntmps92
  go_wp2
  refine wp_whole (by kernel_rfl) (by kernel_rfl) fun hne hcell => ?_
  repeat go_big_quiet_step (fail)
  go_big_quiet_step ((go_at_call 121; exact calls_wd _ bk_next (c46 _)))
  repeat go_big_quiet_step (fail)
  refine wpQuiet_nil fun w1 hb1 => ?_
  obtain ⟨hc1, hf1⟩ := bcell hb1; have hz1_0 : w.heap.size < w1.heap.size := lt_below hb1 ltg; have hl1_0 := Nat.le_of_lt hz1_0; have hz1_1 : w.heap.size + 1 < w1.heap.size := lt_below hb1 ltg; have hl1_1 := Nat.le_of_lt hz1_1; have hz1_2 : w.heap.size + 1 + 1 < w1.heap.size := lt_below hb1 ltg; have hl1_2 := Nat.le_of_lt hz1_2; have hz1_3 : w.heap.size + 1 + 1 + 1 < w1.heap.size := lt_below hb1 ltg; have hl1_3 := Nat.le_of_lt hz1_3; have hA1 := bnext (w0 := w) bgo hb1; have hs1 := hA1.size; clear hb1
  have hsm := cell_set_map
  go_wp2
  exact bodyPost_ret (v := .tuple #[Z4, .int .i64 3]) (by simp only [results, Tryz.results92]; go_simp) rfl ⟨rfl, bgo⟩
set_option maxHeartbeats 1000000 in
theorem packNaN_0 (hL : ¬ (f : Int) - 1 < L) (hL0 : L = 0) : Calls Tryz.prog 92 #[LV f e l m, DV c s true 0 k] w fun x w' => x = .returned (.tuple #[Z4, .int .i64 3]) ∧ Below w.heap.size w w' := by
  subst hL0
  go_enter Tryz.func92, Tryz.ntmps92
  go_wp2
  refine wp_whole (by kernel_rfl) (by kernel_rfl) fun hne hcell => ?_
  repeat go_big_quiet_step (fail)
  go_big_quiet_step ((go_at_call 121; exact calls_wd _ bk_next (c46 _)))
  repeat go_big_quiet_step (fail)
  refine wpQuiet_nil fun w1 hb1 => ?_
  obtain ⟨hc1, hf1⟩ := bcell hb1; have hz1_0 : w.heap.size < w1.heap.size := lt_below hb1 ltg; have hl1_0 := Nat.le_of_lt hz1_0; have hz1_1 : w.heap.size + 1 < w1.heap.size := lt_below hb1 ltg; have hl1_1 := Nat.le_of_lt hz1_1; have hz1_2 : w.heap.size + 1 + 1 < w1.heap.size := lt_below hb1 ltg; have hl1_2 := Nat.le_of_lt hz1_2; have hz1_3 : w.heap.size + 1 + 1 + 1 < w1.heap.size := lt_below hb1 ltg; have hl1_3 := Nat.le_of_lt hz1_3; have hA1 := bnext (w0 := w) bgo hb1; have hs1 := hA1.size; clear hb1
  have hsm := cell_set_map
  go_wp2_with (go_at_call 121; refine (c46 _).mono ?_; rintro x w2 ⟨rfl, hb2⟩; obtain ⟨hc2, hf2⟩ := bcell hb2; have hz2_0 : w.heap.size < w2.heap.size := lt_below hb2 ltg; have hl2_0 := Nat.le_of_lt hz2_0; have hz2_1 : w.heap.size + 1 < w2.heap.size := lt_below hb2 ltg; have hl2_1 := Nat.le_of_lt hz2_1; have hz2_2 : w.heap.size + 1 + 1 < w2.heap.size := lt_below hb2 ltg; have hl2_2 := Nat.le_of_lt hz2_2; have hz2_3 : w.heap.size + 1 + 1 + 1 < w2.heap.size := lt_below hb2 ltg; have hl2_3 := Nat.le_of_lt hz2_3; have hA2 := bnext (w0 := w) bgo hb2; have hs2 := hA2.size; clear hb2)
  exact bodyPost_ret (v := .tuple #[Z4, .int .i64 3]) (by simp only [results, Tryz.results92]; go_simp) rfl ⟨rfl, bgo⟩
set_option maxHeartbeats 1000000 in
theorem packNaN_g (sp : Int) (R : Nat) (hL : ¬ (f : Int) - 1 < L) (hL0 : (L == 0) = false)
    (c20 : ∀ w, Calls Tryz.prog 95 #[LV f e l m] w fun x w' => x = .returned (.int .u64 sp) ∧ Below w.heap.size w w')
    (c40 : ∀ w, Calls Tryz.prog 122 #[LV f e l m, .bool s, .int .u64 sp, A4 k] w fun x w' => x = .returned (A4 R) ∧ Below w.heap.size w w') :
    Calls Tryz.prog 92 #[LV f e l m, DV c s true 0 k] w fun x w' => x = .returned (.tuple #[A4 R, .int .i64 0]) ∧ Below w.heap.size w w' := by
  go_enter Tryz.func92, Tryz.ntmps92
  go_wp2
  refine wp_whole (by kernel_rfl) (by kernel_rfl) fun hne hcell => ?_
  repeat go_big_quiet_step (fail)
  go_big_quiet_step ((go_at_call 121; exact calls_wd _ bk_next (c46 _)))
  repeat go_big_quiet_step (fail)
  refine wpQuiet_nil fun w1 hb1 => ?_
  obtain ⟨hc1, hf1⟩ := bcell hb1; have hz1_0 : w.heap.size < w1.heap.size := lt_below hb1 ltg; have hl1_0 := Nat.le_of_lt hz1_0; have hz1_1 : w.heap.size + 1 < w1.heap.size := lt_below hb1 ltg; have hl1_1 := Nat.le_of_lt hz1_1; have hz1_2 : w.heap.size + 1 + 1 < w1.heap.size := lt_below hb1 ltg; have hl1_2 := Nat.le_of_lt hz1_2; have hz1_3 : w.heap.size + 1 + 1 + 1 < w1.heap.size := lt_below hb1 ltg; have hl1_3 := Nat.le_of_lt hz1_3; have hA1 := bnext (w0 := w) bgo hb1; have hs1 := hA1.size; clear hb1
  have hsm := cell_set_map
  go_wp2_with (go_at_call 121; refine (c46 _).mono ?_; rintro x w2 ⟨rfl, hb2⟩; obtain ⟨hc2, hf2⟩ := bcell hb2; have hz2_0 : w.heap.size < w2.heap.size := lt_below hb2 ltg; have hl2_0 := Nat.le_of_lt hz2_0; have hz2_1 : w.heap.size + 1 < w2.heap.size := lt_below hb2 ltg; have hl2_1 := Nat.le_of_lt hz2_1; have hz2_2 : w.heap.size + 1 + 1 < w2.heap.size := lt_below hb2 ltg; have hl2_2 := Nat.le_of_lt hz2_2; have hz2_3 : w.heap.size + 1 + 1 + 1 < w2.heap.size := lt_below hb2 ltg; have hl2_3 := Nat.le_of_lt hz2_3; have hA2 := bnext (w0 := w) bgo hb2; have hs2 := hA2.size; clear hb2)
  refine wp_tail 7 (by kernel_rfl) (by kernel_rfl) (by kernel_rfl) (fun _ _ d _ _ h => by cases d <;> exact h) fun hne hcell => ?_
  simp only [List.take_succ_cons, List.take_zero, List.drop_succ_cons, List.drop_zero]
  repeat go_big_quiet_step (fail)
  go_big_quiet_step ((go_at_call 95; exact calls_wd _ bk_next (c20 _)))
  repeat go_big_quiet_step (fail)
  go_big_quiet_step ((go_at_call 122; exact calls_wd _ bk_next (c40 _)))
  refine wpQuiet_nil fun w3 hb3 => ?_
  obtain ⟨hc3, hf3⟩ := bcell hb3; have hz3_0 : w.heap.size < w3.heap.size := lt_below hb3 ltg; have hl3_0 := Nat.le_of_lt hz3_0; have hz3_1 : w.heap.size + 1 < w3.heap.size := lt_below hb3 ltg; have hl3_1 := Nat.le_of_lt hz3_1; have hz3_2 : w.heap.size + 1 + 1 < w3.heap.size := lt_below hb3 ltg; have hl3_2 := Nat.le_of_lt hz3_2; have hz3_3 : w.heap.size + 1 + 1 + 1 < w3.heap.size := lt_below hb3 ltg; have hl3_3 := Nat.le_of_lt hz3_3; have hA3 := bnext (w0 := w) bgo hb3; have hs3 := hA3.size; clear hb3
  go_wp2
  exact bodyPost_ret (v := .tuple #[A4 R, .int .i64 0]) (by simp only [results, Tryz.results92]; go_simp) rfl ⟨rfl, bgo⟩
set_option maxHeartbeats 1000000 in
theorem packNaN_q (sp cr : Int) (Qb Kq R : Nat) (hL : ¬ (f : Int) - 1 < L)
    (c47 : ∀ w, Calls Tryz.prog 123 #[LV f e l m] w fun x w' => x = .returned (A4 Qb) ∧ Below w.heap.size w w')
    (c22 : ∀ w, Calls Tryz.prog 97 #[A4 k, A4 Qb] w fun x w' => x = .returned (.tuple #[A4 Kq, .int .u64 cr]) ∧ Below w.heap.size w w')
    (c20 : ∀ w, Calls Tryz.prog 95 #[LV f e l m] w fun x w' => x = .returned (.int .u64 sp) ∧ Below w.heap.size w w')
    (c40 : ∀ w, Calls Tryz.prog 122 #[LV f e l m, .bool s, .int .u64 sp, A4 Kq] w fun x w' => x = .returned (A4 R) ∧ Below w.heap.size w w') :
    Calls Tryz.prog 92 #[LV f e l m, DV c s false 0 k] w fun x w' => x = .returned (.tuple #[A4 R, .int .i64 0]) ∧ Below w.heap.size w w' := by
  go_enter Tryz.func92, Tryz.ntmps92
  go_wp2
  refine wp_whole (by kernel_rfl) (by kernel_rfl) fun hne hcell => ?_
  repeat go_big_quiet_step (fail)
  go_big_quiet_step ((go_at_call 121; exact calls_wd _ bk_next (c46 _)))
  repeat go_big_quiet_step (fail)
  refine wpQuiet_nil fun w1 hb1 => ?_
  obtain ⟨hc1, hf1⟩ := bcell hb1; have hz1_0 : w.heap.size < w1.heap.size := lt_below hb1 ltg; have hl1_0 := Nat.le_of_lt hz1_0; have hz1_1 : w.heap.size + 1 < w1.heap.size := lt_below hb1 ltg; have hl1_1 := Nat.le_of_lt hz1_1; have hz1_2 : w.heap.size + 1 + 1 < w1.heap.size := lt_below hb1 ltg; have hl1_2 := Nat.le_of_lt hz1_2; have hz1_3 : w.heap.size + 1 + 1 + 1 < w1.heap.size := lt_below hb1 ltg; have hl1_3 := Nat.le_of_lt hz1_3; have hA1 := bnext (w0 := w) bgo hb1; have hs1 := hA1.size; clear hb1
  have hsm := cell_set_map
  go_wp2
  refine wp_tail 4 (by kernel_rfl) (by kernel_rfl) (by kernel_rfl) (fun _ _ d _ _ h => by cases d <;> exact h) fun hne hcell => ?_
  simp only [List.take_succ_cons, List.take_zero, List.drop_succ_cons, List.drop_zero]
  repeat go_big_quiet_step (fail)
  go_big_quiet_step ((go_at_call 123; exact calls_wd _ bk_next (c47 _)))
  repeat go_big_quiet_step (fail)
  go_big_quiet_step ((go_at_call 97; exact calls_wd _ bk_next (c22 _)))
  refine wpQuiet_nil fun w2 hb2 => ?_
  obtain ⟨hc2, hf2⟩ := bcell hb2; have hz2_0 : w.heap.size < w2.heap.size := lt_below hb2 ltg; have hl2_0 := Nat.le_of_lt hz2_0; have hz2_1 : w.heap.size + 1 < w2.heap.size := lt_below hb2 ltg; have hl2_1 := Nat.le_of_lt hz2_1; have hz2_2 : w.heap.size + 1 + 1 < w2.heap.size := lt_below hb2 ltg; have hl2_2 := Nat.le_of_lt hz2_2; have hz2_3 : w.heap.size + 1 + 1 + 1 < w2.heap.size := lt_below hb2 ltg; have hl2_3 := Nat.le_of_lt hz2_3; have hA2 := bnext (w0 := w) bgo hb2; have hs2 := hA2.size; clear hb2
  go_wp2
  refine wp_tail 7 (by kernel_rfl) (by kernel_rfl) (by kernel_rfl) (fun _ _ d _ _ h => by cases d <;> exact h) fun hne hcell => ?_
  simp only [List.take_succ_cons, List.take_zero, List.drop_succ_cons, List.drop_zero]
  repeat go_big_quiet_step (fail)
  go_big_quiet_step ((go_at_call 95; exact calls_wd _ bk_next (c20 _)))
  repeat go_big_quiet_step (fail)
  go_big_quiet_step ((go_at_call 122; exact calls_wd _ bk_next (c40 _)))
  refine wpQuiet_nil fun w3 hb3 => ?_
  obtain ⟨hc3, hf3⟩ := bcell hb3; have hz3_0 : w.heap.size < w3.heap.size := lt_below hb3 ltg; have hl3_0 := Nat.le_of_lt hz3_0; have hz3_1 : w.heap.size + 1 < w3.heap.size := lt_below hb3 ltg; have hl3_1 := Nat.le_of_lt hz3_1; have hz3_2 : w.heap.size + 1 + 1 < w3.heap.size := lt_below hb3 ltg; have hl3_2 := Nat.le_of_lt hz3_2; have hz3_3 : w.heap.size + 1 + 1 + 1 < w3.heap.size := lt_below hb3 ltg; have hl3_3 := Nat.le_of_lt hz3_3; have hA3 := bnext (w0 := w) bgo hb3; have hs3 := hA3.size; clear hb3
  go_wp2
  exact bodyPost_ret (v := .tuple #[A4 R, .int .i64 0]) (by simp only [results, Tryz.results92]; go_simp) rfl ⟨rfl, bgo⟩
end

theorem packInfinite_any (f e : Nat) (l m : Int) (w : World) (s g : Bool) (x : Int) (k : Nat) (h : Fm f e l m) (hk : k < 2 ^ 256) :
    Calls Tryz.prog 91 #[LV f e l m, DV 2 s g x k] w fun r w' => r = .returned (if isD f l m ⟨2, s, g, x, k⟩ then .tuple #[A4 (pk f e l ⟨2, s, g, x, k⟩), .int .i64 0] else .tuple #[Z4, .int .i64 3]) ∧ Below w.heap.size w w' := by
  cases g with
  | true =>
    rw [if_neg (by unfold isD; simp)]
    exact packInf_g f e l m w 2 x s k
  | false =>
    by_cases hx : x = 0
    · subst hx
      by_cases h0 : k = 0
      · subst h0
        rw [if_pos (by unfold isD; simp)]
        have hp1 : 1 ≤ 2 ^ e := Nat.one_le_two_pow
        have c40 := fun w => join_any f e l m s (2 ^ e - 1) 0 w h (by omega) (Nat.two_pow_pos _)
        rw [Z4_eq] at c40
        have hd : DV 2 s false 0 0 = .agg #[.int .i64 2, .bool s, .bool false, .int .i64 0, .int .u64 0, .int .u64 0, .int .u64 0, .int .u64 0] := by
          unfold DV; simp only [W4_zero]
        rw [hd]
        exact packInf_ok f e l m w 2 s _ _ (fun w => special_any f e l m w h) c40
      · rw [if_neg (by unfold isD; simp [h0])]
        refine packInf_k f e l m w 2 s k (decide_eq_false fun hz => h0 ?_)
        refine A4_inj hk (by decide) fun i hi => ?_
        rw [W4_zero]
        have : i = 0 ∨ i = 1 ∨ i = 2 ∨ i = 3 := by omega
        rcases this with rfl | rfl | rfl | rfl
        · exact hz.1
        · exact hz.2.1
        · exact hz.2.2.1
        · exact hz.2.2.2
    · rw [if_neg (by unfold isD; simp [hx])]
      exact packInf_x f e l m w 2 x s k (by simpa using hx)
theorem packNaN_any (f e : Nat) (l m : Int) (w : World) (s g : Bool) (x : Int) (k : Nat) (h : Fm f e l m) (hk : k < 2 ^ 256) :
    Calls Tryz.prog 92 #[LV f e l m, DV 3 s g x k] w fun r w' => r = .returned (if isD f l m ⟨3, s, g, x, k⟩ then .tuple #[A4 (pk f e l ⟨3, s, g, x, k⟩), .int .i64 0] else .tuple #[Z4, .int .i64 3]) ∧ Below w.heap.size w w' := by
  have hf : 2 ≤ f ∧ f ≤ 240 := ⟨h.f2, h.f240⟩
  have c46 := fun w => len4' k w
  have hL1 := len4_le (k := f - 1) hk
  have e1 : ((f - 1 : Nat) : Int) = (f : Int) - 1 := by omega
  rw [e1] at hL1
  have hp1 : 1 ≤ 2 ^ e := Nat.one_le_two_pow
  have hpf : 2 ^ (f - 1) * 4 = 2 ^ (f + 1) := by rw [show (4 : Nat) = 2 ^ 2 by decide, ← Nat.pow_add]; congr 1; omega
  by_cases hx : x = 0
  · subst hx
    by_cases hL : k < 2 ^ (f - 1)
    · have hA : ¬ (f : Int) - 1 < lenL (W4 k) 4 := Int.not_lt.2 (hL1.2 hL)
      cases g with
      | true =>
        by_cases h0 : k = 0
        · rw [if_neg (by unfold isD; simp [h0])]
          exact packNaN_0 f e l m w 3 s k _ hf c46 hA ((len4_zero hk).2 h0)
        · rw [if_pos (by unfold isD; exact Or.inr (Or.inr ⟨rfl, rfl, hL, Or.inl h0⟩))]
          have c40 := fun w => join_any f e l m s (2 ^ e - 1) k w h (by omega) (by omega)
          exact packNaN_g f e l m w 3 s k _ hf c46 _ _ hA (by rw [beq_eq_false_iff_ne]; exact fun h1 => h0 ((len4_zero hk).1 h1)) (fun w => special_any f e l m w h) c40
      | false =>
        rw [if_pos (by unfold isD; exact Or.inr (Or.inr ⟨rfl, rfl, hL, Or.inr rfl⟩))]
        have c40 := fun w => join_any f e l m s (2 ^ e - 1) (k + 2 ^ (f - 1)) w h (by omega) (by omega)
        exact packNaN_q f e l m w 3 s k _ hf c46 _ _ _ _ _ hA (fun w => quiet_any f e l m w h) (fun w => add4 k (2 ^ (f - 1)) w hk (Nat.pow_lt_pow_right (by decide) (by omega))) (fun w => special_any f e l m w h) c40
    · have hB : (f : Int) - 1 < lenL (W4 k) 4 := Int.not_le.1 fun h6 => hL (hL1.1 h6)
      rw [if_neg (by unfold isD; simp; omega)]
      exact packNaN_len f e l m w 3 s g k _ hf c46 hB
  · rw [if_neg (by unfold isD; simp [hx])]
    exact packNaN_x f e l m w 3 x s g k _ hf c46 (by simpa using hx)
end
end Go.Proofs.YtpemdcnneabbfaaGreatDoor
