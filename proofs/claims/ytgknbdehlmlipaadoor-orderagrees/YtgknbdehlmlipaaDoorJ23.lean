/-
  Texts that the proof leans on.
-/
import Derived.Test.YtgknbdehlmlipaaDoorJ21
import Derived.Test.YtgknbdehlmlipaaDoorJ3
import Derived.DeepKeys
import Derived.Deep.RegionWith
import Derived.Test.YtgknbdehlmlipaaDoorJ8
set_option linter.unusedVariables false
set_option linter.unusedSectionVars false
set_option linter.unusedSimpArgs false
set_option maxRecDepth 20000
namespace Go.Proofs.YtgknbdehlmlipaaDoor
open Go.RowKit

/-- what a pattern means -/
def unp (f e : Nat) (l : Int) (B : Nat) : Dat :=
  if B / 2 ^ f % 2 ^ e = 2 ^ e - 1 then spc f (sgB f e B) (B % 2 ^ f)
  else if B / 2 ^ f % 2 ^ e = 0 then ⟨1, sgB f e B, false, l, B % 2 ^ f⟩
  else ⟨1, sgB f e B, false, l + ((B / 2 ^ f % 2 ^ e : Nat) - 1 : Int), B % 2 ^ f + 2 ^ f⟩

set_option maxHeartbeats 1000000 in
theorem unpack_bad (n : Int) (B : Nat) (w : World) (hT : Tab w) (hB : B < 2 ^ 256) (h : ¬ goodN n B) :
    Calls Tryd.prog 21 #[.int .i64 n, A4 B] w fun x w' => x = .returned (.tuple #[DV 0 false false 0 0, .int .i64 1]) ∧ Below w.heap.size w w' := by
  have c18 := fun w hT => layoutFor_bad n B w hT hB h
  unfold DV
  simp only [W4_zero]
  clear h hB
  go_enter Tryd.func21, Tryd.ntmps21
  go_wp2_with (go_at_call 29; refine (c18 _ ((hT.alloc _).alloc _)).mono ?_; rintro x w1 ⟨rfl, hb1⟩; obtain ⟨hc1, hf1⟩ := bcell hb1; have hz1_0 : w.heap.size < w1.heap.size := lt_below hb1 ltg; have hl1_0 := Nat.le_of_lt hz1_0; have hz1_1 : w.heap.size + 1 < w1.heap.size := lt_below hb1 ltg; have hl1_1 := Nat.le_of_lt hz1_1; have hA1 := bnext (w0 := w) bgo hb1; have hs1 := hA1.size; clear hb1)
  have hsm := cell_set_map
  exact bodyPost_ret (v := .tuple #[.agg #[.int .i64 0, .bool false, .bool false, .int .i64 0, .int .u64 0, .int .u64 0, .int .u64 0, .int .u64 0], .int .i64 1]) (by simp only [results, Tryd.results21]; go_simp) rfl ⟨rfl, bgo⟩

section
variable (n : Int) (B : Nat) (f e : Nat) (l m : Int) (w : World) (hT : Tab w) (S : Bool) (E sp : Int) (Fr : Nat)
  (c18 : ∀ w, Tab w → Calls Tryd.prog 29 #[.int .i64 n, A4 B] w fun x w' => x = .returned (.tuple #[LV f e l m, .int .i64 0]) ∧ Below w.heap.size w w')
  (c19 : ∀ w, Calls Tryd.prog 30 #[LV f e l m, A4 B] w fun x w' => x = .returned (.tuple #[.bool S, .int .u64 E, A4 Fr]) ∧ Below w.heap.size w w')
  (c20 : ∀ w, Calls Tryd.prog 31 #[LV f e l m] w fun x w' => x = .returned (.int .u64 sp) ∧ Below w.heap.size w w')
include hT c18 c19 c20
set_option maxHeartbeats 1000000 in
theorem unpack_sp (D : Dat) (c21 : ∀ w, Calls Tryd.prog 32 #[LV f e l m, .bool S, A4 Fr] w fun x w' => x = .returned D.v ∧ Below w.heap.size w w') (hE : (E == sp) = true) :
    Calls Tryd.prog 21 #[.int .i64 n, A4 B] w fun x w' => x = .returned (.tuple #[D.v, .int .i64 0]) ∧ Below w.heap.size w w' := by
  obtain ⟨dc, ds, dg, dx, dk⟩ := D
  unfold Dat.v at *
  dsimp only at *
  go_enter Tryd.func21, Tryd.ntmps21
  go_wp2_with (first
    | (go_at_call 29; refine (c18 _ ((hT.alloc _).alloc _)).mono ?_; rintro x w1 ⟨rfl, hb1⟩; obtain ⟨hc1, hf1⟩ := bcell hb1; have hz1_0 : w.heap.size < w1.heap.size := lt_below hb1 ltg; have hl1_0 := Nat.le_of_lt hz1_0; have hz1_1 : w.heap.size + 1 < w1.heap.size := lt_below hb1 ltg; have hl1_1 := Nat.le_of_lt hz1_1; have hA1 := bnext (w0 := w) bgo hb1; have hs1 := hA1.size; clear hb1)
    | (go_at_call 30; refine (c19 _).mono ?_; rintro x w2 ⟨rfl, hb2⟩; obtain ⟨hc2, hf2⟩ := bcell hb2; have hz2_0 : w.heap.size < w2.heap.size := lt_below hb2 ltg; have hl2_0 := Nat.le_of_lt hz2_0; have hz2_1 : w.heap.size + 1 < w2.heap.size := lt_below hb2 ltg; have hl2_1 := Nat.le_of_lt hz2_1; have hz2_2 : w1.heap.size < w2.heap.size := lt_below hb2 ltg; have hl2_2 := Nat.le_of_lt hz2_2; have hA2 := bnext (w0 := w) bgo hb2; have hs2 := hA2.size; clear hb2)
    | (go_at_call 31; refine (c20 _).mono ?_; rintro x w3 ⟨rfl, hb3⟩; obtain ⟨hc3, hf3⟩ := bcell hb3; have hz3_0 : w.heap.size < w3.heap.size := lt_below hb3 ltg; have hl3_0 := Nat.le_of_lt hz3_0; have hz3_1 : w.heap.size + 1 < w3.heap.size := lt_below hb3 ltg; have hl3_1 := Nat.le_of_lt hz3_1; have hz3_2 : w1.heap.size < w3.heap.size := lt_below hb3 ltg; have hl3_2 := Nat.le_of_lt hz3_2; have hz3_3 : w2.heap.size < w3.heap.size := lt_below hb3 ltg; have hl3_3 := Nat.le_of_lt hz3_3; have hA3 := bnext (w0 := w) bgo hb3; have hs3 := hA3.size; clear hb3)
    | (go_at_call 32; refine (c21 _).mono ?_; rintro x w4 ⟨rfl, hb4⟩; obtain ⟨hc4, hf4⟩ := bcell hb4; have hz4_0 : w.heap.size < w4.heap.size := lt_below hb4 ltg; have hl4_0 := Nat.le_of_lt hz4_0; have hz4_1 : w.heap.size + 1 < w4.heap.size := lt_below hb4 ltg; have hl4_1 := Nat.le_of_lt hz4_1; have hz4_2 : w1.heap.size < w4.heap.size := lt_below hb4 ltg; have hl4_2 := Nat.le_of_lt hz4_2; have hz4_3 : w2.heap.size < w4.heap.size := lt_below hb4 ltg; have hl4_3 := Nat.le_of_lt hz4_3; have hA4 := bnext (w0 := w) bgo hb4; have hs4 := hA4.size; clear hb4))
  have hsm := cell_set_map
  exact bodyPost_ret (v := .tuple #[DV dc ds dg dx dk, .int .i64 0]) (by simp only [results, Tryd.results21]; go_simp) rfl ⟨rfl, bgo⟩
set_option maxHeartbeats 1000000 in
theorem unpack_sub (hE : (E == sp) = false) (hE0 : E = 0) :
    Calls Tryd.prog 21 #[.int .i64 n, A4 B] w fun x w' => x = .returned (.tuple #[DV 1 S false l Fr, .int .i64 0]) ∧ Below w.heap.size w w' := by
  subst hE0
  go_enter Tryd.func21, Tryd.ntmps21
  go_wp2_with (first
    | (go_at_call 29; refine (c18 _ ((hT.alloc _).alloc _)).mono ?_; rintro x w1 ⟨rfl, hb1⟩; obtain ⟨hc1, hf1⟩ := bcell hb1; have hz1_0 : w.heap.size < w1.heap.size := lt_below hb1 ltg; have hl1_0 := Nat.le_of_lt hz1_0; have hz1_1 : w.heap.size + 1 < w1.heap.size := lt_below hb1 ltg; have hl1_1 := Nat.le_of_lt hz1_1; have hA1 := bnext (w0 := w) bgo hb1; have hs1 := hA1.size; clear hb1)
    | (go_at_call 30; refine (c19 _).mono ?_; rintro x w2 ⟨rfl, hb2⟩; obtain ⟨hc2, hf2⟩ := bcell hb2; have hz2_0 : w.heap.size < w2.heap.size := lt_below hb2 ltg; have hl2_0 := Nat.le_of_lt hz2_0; have hz2_1 : w.heap.size + 1 < w2.heap.size := lt_below hb2 ltg; have hl2_1 := Nat.le_of_lt hz2_1; have hz2_2 : w1.heap.size < w2.heap.size := lt_below hb2 ltg; have hl2_2 := Nat.le_of_lt hz2_2; have hA2 := bnext (w0 := w) bgo hb2; have hs2 := hA2.size; clear hb2)
    | (go_at_call 31; refine (c20 _).mono ?_; rintro x w3 ⟨rfl, hb3⟩; obtain ⟨hc3, hf3⟩ := bcell hb3; have hz3_0 : w.heap.size < w3.heap.size := lt_below hb3 ltg; have hl3_0 := Nat.le_of_lt hz3_0; have hz3_1 : w.heap.size + 1 < w3.heap.size := lt_below hb3 ltg; have hl3_1 := Nat.le_of_lt hz3_1; have hz3_2 : w1.heap.size < w3.heap.size := lt_below hb3 ltg; have hl3_2 := Nat.le_of_lt hz3_2; have hz3_3 : w2.heap.size < w3.heap.size := lt_below hb3 ltg; have hl3_3 := Nat.le_of_lt hz3_3; have hA3 := bnext (w0 := w) bgo hb3; have hs3 := hA3.size; clear hb3))
  have hsm := cell_set_map
  exact bodyPost_ret (v := .tuple #[DV 1 S false l Fr, .int .i64 0]) (by simp only [results, Tryd.results21]; go_simp) rfl ⟨rfl, bgo⟩
set_option maxHeartbeats 2000000 in
theorem unpack_norm (Pw Co : Nat) (cr : Int) (hl : -1000000 ≤ l ∧ l ≤ 0) (hE : (E == sp) = false) (hE0 : 0 < E) (hE1 : E ≤ 32768)
    (c23 : ∀ w, Calls Tryd.prog 34 #[.int .i64 f] w fun x w' => x = .returned (A4 Pw) ∧ Below w.heap.size w w')
    (c22 : ∀ w, Calls Tryd.prog 33 #[A4 Fr, A4 Pw] w fun x w' => x = .returned (.tuple #[A4 Co, .int .u64 cr]) ∧ Below w.heap.size w w') :
    Calls Tryd.prog 21 #[.int .i64 n, A4 B] w fun x w' => x = .returned (.tuple #[DV 1 S false (l + (E - 1)) Co, .int .i64 0]) ∧ Below w.heap.size w w' := by
  go_enter Tryd.func21, Tryd.ntmps21
  go_wp2_with (first
    | (go_at_call 29; refine (c18 _ ((hT.alloc _).alloc _)).mono ?_; rintro x w1 ⟨rfl, hb1⟩; obtain ⟨hc1, hf1⟩ := bcell hb1; have hz1_0 : w.heap.size < w1.heap.size := lt_below hb1 ltg; have hl1_0 := Nat.le_of_lt hz1_0; have hz1_1 : w.heap.size + 1 < w1.heap.size := lt_below hb1 ltg; have hl1_1 := Nat.le_of_lt hz1_1; have hA1 := bnext (w0 := w) bgo hb1; have hs1 := hA1.size; clear hb1)
    | (go_at_call 30; refine (c19 _).mono ?_; rintro x w2 ⟨rfl, hb2⟩; obtain ⟨hc2, hf2⟩ := bcell hb2; have hz2_0 : w.heap.size < w2.heap.size := lt_below hb2 ltg; have hl2_0 := Nat.le_of_lt hz2_0; have hz2_1 : w.heap.size + 1 < w2.heap.size := lt_below hb2 ltg; have hl2_1 := Nat.le_of_lt hz2_1; have hz2_2 : w1.heap.size < w2.heap.size := lt_below hb2 ltg; have hl2_2 := Nat.le_of_lt hz2_2; have hA2 := bnext (w0 := w) bgo hb2; have hs2 := hA2.size; clear hb2)
    | (go_at_call 31; refine (c20 _).mono ?_; rintro x w3 ⟨rfl, hb3⟩; obtain ⟨hc3, hf3⟩ := bcell hb3; have hz3_0 : w.heap.size < w3.heap.size := lt_below hb3 ltg; have hl3_0 := Nat.le_of_lt hz3_0; have hz3_1 : w.heap.size + 1 < w3.heap.size := lt_below hb3 ltg; have hl3_1 := Nat.le_of_lt hz3_1; have hz3_2 : w1.heap.size < w3.heap.size := lt_below hb3 ltg; have hl3_2 := Nat.le_of_lt hz3_2; have hz3_3 : w2.heap.size < w3.heap.size := lt_below hb3 ltg; have hl3_3 := Nat.le_of_lt hz3_3; have hA3 := bnext (w0 := w) bgo hb3; have hs3 := hA3.size; clear hb3))
  have hn1 : w1.heap.size ≠ w.heap.size := by omega
  have hn2 : w1.heap.size ≠ w.heap.size + 1 := by omega
  have hn3 : w2.heap.size ≠ w1.heap.size := by omega
  refine wp_made 5 8 12 #[.int .u64 0, .int .u64 0, .int .u64 0, .int .u64 0] (by kernel_rfl) (by kernel_rfl) (by kernel_rfl) rfl (fun oa hoa a w => ?_) (by kernel_rfl) (by kernel_rfl) rfl rfl (fun _ _ d _ _ h => by cases d <;> exact h) ?_
  · cases hoa; exact ⟨23, by simp [go_sem]⟩
  apply Exists.intro
  refine ⟨fun al hne hcell => ?_, fun w4 hb4 => ?_, fun g w4 hb4 hg0 hg1 hg2 hg3 => ?_⟩
  · simp only [List.take_succ_cons, List.take_zero]
    repeat go_big_quiet_step (fail)
    go_big_quiet_step ((go_at_call 34; exact calls_wd _ al_next (c23 _)))
    repeat go_big_quiet_step (fail)
    go_big_quiet_step ((go_at_call 33; exact calls_wd _ al_next (c22 _)))
    exact wpQuiet_nil rfl
  · simp only [List.drop_succ_cons, List.drop_zero]
    obtain ⟨hc4, hf4⟩ := bcell hb4; have hz4_0 : w.heap.size < w4.heap.size := lt_below hb4 ltg; have hl4_0 := Nat.le_of_lt hz4_0; have hz4_1 : w.heap.size + 1 < w4.heap.size := lt_below hb4 ltg; have hl4_1 := Nat.le_of_lt hz4_1; have hz4_2 : w1.heap.size < w4.heap.size := lt_below hb4 ltg; have hl4_2 := Nat.le_of_lt hz4_2; have hz4_3 : w2.heap.size < w4.heap.size := lt_below hb4 ltg; have hl4_3 := Nat.le_of_lt hz4_3; have hz4_4 : w3.heap.size < w4.heap.size := lt_below hb4 ltg; have hl4_4 := Nat.le_of_lt hz4_4; have hA4 := bnext (w0 := w) bgo hb4; have hs4 := hA4.size; clear hb4
    have hsm := cell_set_map
    go_wp2
    exact bodyPost_ret (v := .tuple #[DV 1 S false (l + (E - 1)) Co, .int .i64 0]) (by simp only [results, Tryd.results21]; go_simp) rfl ⟨rfl, bgo⟩
  · simp only [List.drop_succ_cons, List.drop_zero, Nat.reduceSub, List.eraseIdx_cons_succ, List.eraseIdx_cons_zero]
    simp only [World.size_alloc] at hg0
    have hgw := hA3.size
    have hz0 : g ≠ w.heap.size := by omega
    have hz1 : g ≠ w.heap.size + 1 := by omega
    have hz2 : g ≠ w1.heap.size := by omega
    have hz3 : g ≠ w2.heap.size := by omega
    have hz4 : g ≠ w3.heap.size := by omega
    obtain ⟨hc4, hf4⟩ := bcell hb4; have hz4_0 : w.heap.size < w4.heap.size := lt_below hb4 ltg; have hl4_0 := Nat.le_of_lt hz4_0; have hz4_1 : w.heap.size + 1 < w4.heap.size := lt_below hb4 ltg; have hl4_1 := Nat.le_of_lt hz4_1; have hz4_2 : w1.heap.size < w4.heap.size := lt_below hb4 ltg; have hl4_2 := Nat.le_of_lt hz4_2; have hz4_3 : w2.heap.size < w4.heap.size := lt_below hb4 ltg; have hl4_3 := Nat.le_of_lt hz4_3; have hz4_4 : w3.heap.size < w4.heap.size := lt_below hb4 ltg; have hl4_4 := Nat.le_of_lt hz4_4; have hA4 := bnext (w0 := w) bgo hb4; have hs4 := hA4.size; clear hb4
    have hsm := cell_set_map
    go_wp2
    exact bodyPost_ret (v := .tuple #[DV 1 S false (l + (E - 1)) Co, .int .i64 0]) (by simp only [results, Tryd.results21]; go_simp) rfl ⟨rfl, bgo⟩
end
theorem unpack_ok (n : Int) (B : Nat) (w : World) (hT : Tab w) (hB : B < 2 ^ 256) (h : goodN n B) :
    Calls Tryd.prog 21 #[.int .i64 n, A4 B] w fun x w' => x = .returned (.tuple #[(unp (fN n) (eN n) (leastN n) B).v, .int .i64 0]) ∧ Below w.heap.size w w' := by
  have hF := bin_fm h.1
  have c18 := fun w hT => layoutFor_ok n B w hT hB h
  have c19 := fun w => split_any (fN n) (eN n) (leastN n) (mostN n) B w hF hB
  have c20 := fun w => special_any (fN n) (eN n) (leastN n) (mostN n) w hF
  have hf240 := hF.f240
  have hp := pow_e hF.e2 hF.e15
  have hpc : ((2 : Int) ^ eN n) = ((2 ^ eN n : Nat) : Int) := by simp
  have hmod : B / 2 ^ fN n % 2 ^ eN n < 2 ^ eN n := Nat.mod_lt _ (Nat.two_pow_pos _)
  have hfr : B % 2 ^ fN n < 2 ^ fN n := Nat.mod_lt _ (Nat.two_pow_pos _)
  have hf256 : 2 ^ fN n < 2 ^ 256 := Nat.pow_lt_pow_right (by decide) (by omega)
  unfold unp
  by_cases h1 : B / 2 ^ fN n % 2 ^ eN n = 2 ^ eN n - 1
  · rw [if_pos h1]
    exact unpack_sp n B _ _ _ _ w hT _ _ _ _ c18 c19 c20 _ (fun w => special_spc (fN n) (eN n) (leastN n) (mostN n) (sgB (fN n) (eN n) B) (B % 2 ^ fN n) w hF (by omega)) (by rw [h1]; simp)
  · rw [if_neg h1]
    have hE : (((B / 2 ^ fN n % 2 ^ eN n : Nat) : Int) == ((2 ^ eN n - 1 : Nat) : Int)) = false := by
      rw [beq_eq_false_iff_ne]; omega
    by_cases h2 : B / 2 ^ fN n % 2 ^ eN n = 0
    · rw [if_pos h2]
      exact unpack_sub n B _ _ _ _ w hT _ _ _ _ c18 c19 c20 hE (by omega)
    · rw [if_neg h2]
      have h256 : (2 : Nat) ^ 256 = 115792089237316195423570985008687907853269984665640564039457584007913129639936 := by decide
      exact unpack_norm n B _ _ _ _ w hT _ _ _ _ c18 c19 c20 (2 ^ fN n) (B % 2 ^ fN n + 2 ^ fN n) _ ⟨hF.l1, hF.l0⟩ hE (by omega) (by rw [hpc] at hp; omega) (fun w => power_any (fN n) w (by omega)) (fun w => add4 (B % 2 ^ fN n) (2 ^ fN n) w (by omega) hf256)
end Go.Proofs.YtgknbdehlmlipaaDoor

namespace Go.Proofs.YtgknbdehlmlipaaDoor
open Go.RowKit

abbrev Z4 : Value := .agg #[.int .u64 0, .int .u64 0, .int .u64 0, .int .u64 0]
theorem Z4_eq : A4 0 = Z4 := by unfold A4 Z4; simp only [W4_zero]

/-- is a datum the format's? -/
def isD (f : Nat) (l m : Int) (d : Dat) : Prop :=
  (d.c = 1 ∧ d.g = false ∧ d.k < 2 ^ (f + 1) ∧ l ≤ d.x ∧ d.x ≤ m ∧ (2 ^ f ≤ d.k ∨ d.x = l)) ∨
  (d.c = 2 ∧ d.g = false ∧ d.x = 0 ∧ d.k = 0) ∨
  (d.c = 3 ∧ d.x = 0 ∧ d.k < 2 ^ (f - 1) ∧ (d.k ≠ 0 ∨ d.g = false))
instance (f : Nat) (l m : Int) (d : Dat) : Decidable (isD f l m d) := inferInstanceAs (Decidable (_ ∨ _ ∨ _))
/-- the pattern that means it -/
def pk (f e : Nat) (l : Int) (d : Dat) : Nat :=
  (if d.c = 1 then (d.x - l).toNat * 2 ^ f + d.k else if d.c = 2 then (2 ^ e - 1) * 2 ^ f + 0 else (2 ^ e - 1) * 2 ^ f + (if d.g then d.k else d.k + 2 ^ (f - 1))) + if d.s then 2 ^ (f + e) else 0

end Go.Proofs.YtgknbdehlmlipaaDoor

namespace Go.Proofs.YtgknbdehlmlipaaDoor
open Go.RowKit

theorem eq24d (d : Nat) (a0 a1 a2 a3 b0 b1 b2 b3 : Int) (w : World) :
    Sem.run Tryd.prog (Op.equalIn (d + 2) 24 (.agg #[.int .u64 a0, .int .u64 a1, .int .u64 a2, .int .u64 a3]) (.agg #[.int .u64 b0, .int .u64 b1, .int .u64 b2, .int .u64 b3])) w = .ok (decide (a0 = b0 ∧ a1 = b1 ∧ a2 = b2 ∧ a3 = b3)) w := by
  obtain ⟨i22, hi⟩ : ∃ i, Tryd.prog.info? 22 = some i := ⟨_, rfl⟩
  have h := run_equalIn_array (P := Tryd.prog) w (d + 1) (t := 24) (e := 22) (n := 4) #[.int .u64 a0, .int .u64 a1, .int .u64 a2, .int .u64 a3] #[.int .u64 b0, .int .u64 b1, .int .u64 b2, .int .u64 b3] (by kernel_rfl) hi
  refine h.trans ?_
  have hc : Tryd.prog.cellsOf 22 = 1 := by kernel_rfl
  rw [hc]
  simp [List.range_succ, Op.eqItems, go_sem]
  by_cases h0 : a0 = b0 <;> by_cases h1 : a1 = b1 <;> by_cases h2 : a2 = b2 <;> by_cases h3 : a3 = b3 <;> simp [h0, h1, h2, h3]
theorem eq24 (a0 a1 a2 a3 b0 b1 b2 b3 : Int) (w : World) :
    Sem.run Tryd.prog (Op.equalIn 10000 24 (.agg #[.int .u64 a0, .int .u64 a1, .int .u64 a2, .int .u64 a3]) (.agg #[.int .u64 b0, .int .u64 b1, .int .u64 b2, .int .u64 b3])) w = .ok (decide (a0 = b0 ∧ a1 = b1 ∧ a2 = b2 ∧ a3 = b3)) w :=
  eq24d 9998 a0 a1 a2 a3 b0 b1 b2 b3 w
end Go.Proofs.YtgknbdehlmlipaaDoor

namespace Go.Proofs.YtgknbdehlmlipaaDoor
open Go.RowKit

/-- what Unpack answers -/
def unD (n : Int) (B : Nat) : Dat := if goodN n B then unp (fN n) (eN n) (leastN n) B else ⟨0, false, false, 0, 0⟩
def unE (n : Int) (B : Nat) : Int := if goodN n B then 0 else 1
theorem unpack_any (n : Int) (B : Nat) (w : World) (hT : Tab w) (hB : B < 2 ^ 256) :
    Calls Tryd.prog 21 #[.int .i64 n, A4 B] w fun x w' => x = .returned (.tuple #[(unD n B).v, .int .i64 (unE n B)]) ∧ Below w.heap.size w w' := by
  unfold unD unE
  by_cases h : goodN n B
  · rw [if_pos h, if_pos h]; exact unpack_ok n B w hT hB h
  · rw [if_neg h, if_neg h]; exact unpack_bad n B w hT hB h
end Go.Proofs.YtgknbdehlmlipaaDoor

namespace Go.Proofs.YtgknbdehlmlipaaDoor

/-- a pattern made of its fields -/
theorem fields_of {f e S E F : Nat} (hS : S ≤ 1) (hE : E < 2 ^ e) (hF : F < 2 ^ f) :
    (E * 2 ^ f + F + S * 2 ^ (f + e)) % 2 ^ f = F ∧ (E * 2 ^ f + F + S * 2 ^ (f + e)) / 2 ^ f % 2 ^ e = E ∧ (E * 2 ^ f + F + S * 2 ^ (f + e)) / 2 ^ (f + e) = S ∧ E * 2 ^ f + F + S * 2 ^ (f + e) < 2 ^ (f + e + 1) := by
  have hP : 0 < 2 ^ f := Nat.two_pow_pos f
  have hR : 0 < 2 ^ e := Nat.two_pow_pos e
  have e1 : E * 2 ^ f + F + S * 2 ^ (f + e) = F + (E + S * 2 ^ e) * 2 ^ f := by
    rw [Nat.pow_add, Nat.add_mul, Nat.mul_assoc, Nat.mul_comm (2 ^ e) (2 ^ f)]; omega
  have d1 : (E * 2 ^ f + F + S * 2 ^ (f + e)) / 2 ^ f = E + S * 2 ^ e := by
    rw [e1, Nat.add_mul_div_right _ _ hP, Nat.div_eq_of_lt hF, Nat.zero_add]
  have d2 : (E * 2 ^ f + F + S * 2 ^ (f + e)) / 2 ^ (f + e) = S := by
    rw [Nat.pow_add, ← Nat.div_div_eq_div_mul, ← Nat.pow_add, d1, Nat.add_mul_div_right _ _ hR, Nat.div_eq_of_lt hE, Nat.zero_add]
  refine ⟨?_, ?_, d2, ?_⟩
  · rw [e1, Nat.add_mul_mod_self_right, Nat.mod_eq_of_lt hF]
  · rw [d1, Nat.add_mul_mod_self_right, Nat.mod_eq_of_lt hE]
  · have hp : 0 < 2 ^ (f + e) := Nat.two_pow_pos _
    refine Nat.lt_of_div_lt_div (c := 2 ^ (f + e)) ?_
    rw [d2, Nat.pow_succ, Nat.mul_comm, Nat.mul_div_cancel _ hp]
    omega
theorem fields_in {f e B : Nat} (hB : B < 2 ^ (f + e + 1)) : ∃ S E F, S ≤ 1 ∧ E < 2 ^ e ∧ F < 2 ^ f ∧ B = E * 2 ^ f + F + S * 2 ^ (f + e) := by
  refine ⟨B / 2 ^ (f + e), B / 2 ^ f % 2 ^ e, B % 2 ^ f, ?_, Nat.mod_lt _ (Nat.two_pow_pos _), Nat.mod_lt _ (Nat.two_pow_pos _), ?_⟩
  · have : B / 2 ^ (f + e) < 2 := Nat.div_lt_of_lt_mul (by rw [Nat.mul_comm]; rw [Nat.pow_succ] at hB; omega)
    omega
  · have h1 := Nat.div_add_mod' B (2 ^ f)
    have h2 := Nat.div_add_mod' (B / 2 ^ f) (2 ^ e)
    rw [Nat.div_div_eq_div_mul, ← Nat.pow_add] at h2
    have h3 : (B / 2 ^ (f + e) * 2 ^ e + B / 2 ^ f % 2 ^ e) * 2 ^ f = B / 2 ^ f * 2 ^ f := by rw [h2]
    rw [Nat.add_mul, Nat.mul_assoc, Nat.mul_comm (2 ^ e) (2 ^ f), ← Nat.pow_add] at h3
    omega
theorem sg_of {f e S E F : Nat} (hS : S ≤ 1) (hE : E < 2 ^ e) (hF : F < 2 ^ f) : sgB f e (E * 2 ^ f + F + S * 2 ^ (f + e)) = decide (S = 1) := by
  unfold sgB
  rw [(fields_of hS hE hF).2.2.1]
  have : S = 0 ∨ S = 1 := by omega
  rcases this with rfl | rfl <;> rfl
/-- what a pattern means, by its fields -/
def mean (f e : Nat) (l : Int) (S E F : Nat) : Dat :=
  if E = 2 ^ e - 1 then spc f (decide (S = 1)) F else if E = 0 then ⟨1, decide (S = 1), false, l, F⟩ else ⟨1, decide (S = 1), false, l + ((E : Int) - 1), F + 2 ^ f⟩
theorem unp_mean {f e S E F : Nat} (l : Int) (hS : S ≤ 1) (hE : E < 2 ^ e) (hF : F < 2 ^ f) : unp f e l (E * 2 ^ f + F + S * 2 ^ (f + e)) = mean f e l S E F := by
  unfold unp mean
  obtain ⟨h1, h2, _, _⟩ := fields_of hS hE hF
  rw [h1, h2, sg_of hS hE hF]
theorem sel {S X : Nat} (hS : S ≤ 1) : (if decide (S = 1) = true then X else 0) = S * X := by
  have : S = 0 ∨ S = 1 := by omega
  rcases this with rfl | rfl <;> simp
theorem half {f : Nat} (h : 2 ≤ f) : 2 ^ (f - 1) + 2 ^ (f - 1) = 2 ^ f ∧ 1 ≤ 2 ^ (f - 1) := by
  refine ⟨?_, Nat.one_le_two_pow⟩
  have : f = f - 1 + 1 := by omega
  conv => rhs; rw [this, Nat.pow_succ]
  omega
theorem mean_isD {f e S E F : Nat} {l m : Int} (h : Fm f e l m) (hS : S ≤ 1) (hE : E < 2 ^ e) (hF : F < 2 ^ f) : isD f l m (mean f e l S E F) ∧ pk f e l (mean f e l S E F) = E * 2 ^ f + F + S * 2 ^ (f + e) ∧ (mean f e l S E F).k < 2 ^ 256 := by
  have hp := pow_e h.e2 h.e15
  have hpc : ((2 : Int) ^ e) = ((2 ^ e : Nat) : Int) := by simp
  have hm := h.m
  rw [hpc] at hp hm
  have hh := half h.f2
  have h256 : 2 ^ (f + 1) ≤ 2 ^ 256 := Nat.pow_le_pow_right (by decide) (by have := h.f240; omega)
  have hs1 : 2 ^ (f + 1) = 2 ^ f + 2 ^ f := by rw [Nat.pow_succ]; omega
  unfold mean
  by_cases h1 : E = 2 ^ e - 1
  · rw [if_pos h1]
    unfold spc
    by_cases h2 : F = 0
    · rw [if_pos h2]
      refine ⟨Or.inr (Or.inl ⟨rfl, rfl, rfl, rfl⟩), ?_, by show 0 < _; omega⟩
      unfold pk
      simp only [show ¬ ((2 : Int) = 1) by decide, if_false, if_true]
      rw [sel hS, ← h1, h2]
    · rw [if_neg h2]
      by_cases h3 : F < 2 ^ (f - 1)
      · rw [if_pos h3]
        refine ⟨Or.inr (Or.inr ⟨rfl, rfl, h3, Or.inl h2⟩), ?_, by show F < _; omega⟩
        unfold pk
        simp only [show ¬ ((3 : Int) = 1) by decide, show ¬ ((3 : Int) = 2) by decide, if_false, if_true]
        rw [sel hS, ← h1]
      · rw [if_neg h3]
        refine ⟨Or.inr (Or.inr ⟨rfl, rfl, by show F - 2 ^ (f - 1) < _; omega, Or.inr rfl⟩), ?_, by show F - 2 ^ (f - 1) < _; omega⟩
        unfold pk
        simp only [show ¬ ((3 : Int) = 1) by decide, show ¬ ((3 : Int) = 2) by decide, if_false, Bool.false_eq_true]
        rw [sel hS, ← h1, Nat.sub_add_cancel (by omega)]
  · rw [if_neg h1]
    by_cases h2 : E = 0
    · rw [if_pos h2]
      refine ⟨Or.inl ⟨rfl, rfl, by show F < _; omega, Int.le_refl _, by show l ≤ m; omega, Or.inr rfl⟩, ?_, by show F < _; omega⟩
      unfold pk
      simp only [if_true, Int.sub_self, Int.toNat_zero, Nat.zero_mul]
      rw [sel hS, h2, Nat.zero_mul]
    · rw [if_neg h2]
      refine ⟨Or.inl ⟨rfl, rfl, by show F + 2 ^ f < _; omega, by show l ≤ l + ((E : Int) - 1); omega, by show l + ((E : Int) - 1) ≤ m; omega, Or.inl (by show 2 ^ f ≤ F + 2 ^ f; omega)⟩, ?_, by show F + 2 ^ f < _; omega⟩
      unfold pk
      simp only [if_true]
      rw [sel hS, show (l + ((E : Int) - 1) - l).toNat = E - 1 by omega]
      obtain ⟨E', rfl⟩ : ∃ E', E = E' + 1 := ⟨E - 1, by omega⟩
      rw [Nat.add_sub_cancel, Nat.add_mul]
      omega
theorem unD_k (n : Int) (B : Nat) : (unD n B).k < 2 ^ 256 := by
  unfold unD
  by_cases h : goodN n B
  · rw [if_pos h]
    obtain ⟨S, E, F, hS, hE, hFr, hB⟩ := fields_in h.2
    rw [hB, unp_mean _ hS hE hFr]
    exact (mean_isD (bin_fm h.1) hS hE hFr).2.2
  · rw [if_neg h]; decide
end Go.Proofs.YtgknbdehlmlipaaDoor

namespace Go.Proofs.YtgknbdehlmlipaaDoor
open Go.RowKit

theorem NT.stays (K V : Nat) : Stays (NT K V) := fun v w w' h hb => h.next hb
section
variable {a : Act} {w : World} {K : Act → World → Prop} {Q : Exit → Act → World → Prop} {d p q r : Nat} {ty : TypeId} {pos : String} {after : Array Edge} {gd : Option (Nat × Bool)}
end
end Go.Proofs.YtgknbdehlmlipaaDoor
