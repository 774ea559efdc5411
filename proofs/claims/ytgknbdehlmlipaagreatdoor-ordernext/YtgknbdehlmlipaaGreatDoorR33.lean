/-
  Texts that the proof leans on.
-/
import Derived.Test.YtgknbdehlmlipaaGreatDoorR28
import Derived.Test.YtgknbdehlmlipaaGreatDoorR22
import Derived.Deep.MidRow
import Derived.Test.YtgknbdehlmlipaaGreatDoorR6
set_option linter.unusedVariables false
set_option linter.unusedSectionVars false
set_option linter.unusedSimpArgs false
set_option maxRecDepth 20000
namespace Go.Proofs.YtgknbdehlmlipaaGreatDoor
open Go.RowKit
section
/-- eighteen cells of a block -/
def ld18 (a : Addr) : Sem (Array Value) := loadCellsFrom a 0 18 #[]
theorem ld18_eq (a : Addr) : loadCellsFrom a 0 18 #[] = ld18 a := rfl
theorem ld18_run {P : Program} (W : World) (b : Nat) (f : Nat → Value) (h : ∀ i, i < 18 → W.cell? ⟨b, i, none⟩ = some (f i)) :
    (ld18 ⟨b, 0, none⟩).run P W = .ok ((List.range 18).map f).toArray W := by
  have := run_loadCellsFrom (P := P) W ⟨b, 0, none⟩ f 18 0 #[] (fun j hj => by
    have hadd : (⟨b, 0, none⟩ : Addr).add (0 + j) = ⟨b, 0 + j, none⟩ := by unfold Addr.add; split <;> simp_all
    rw [hadd, Nat.zero_add]
    exact h j hj)
  unfold ld18
  rw [this]
  simp
/-- the same -/
def ld18x (a : Addr) : Sem (Array Value) := loadCellsFrom a 0 18 #[]
theorem ld18_got {P : Program} (W : World) (b : Nat) :
    (ld18 ⟨b, 0, none⟩).run P W = if (W.cell? ⟨b, 0, none⟩).isSome = true ∧ (W.cell? ⟨b, 1, none⟩).isSome = true ∧ (W.cell? ⟨b, 2, none⟩).isSome = true ∧ (W.cell? ⟨b, 3, none⟩).isSome = true ∧ (W.cell? ⟨b, 4, none⟩).isSome = true ∧ (W.cell? ⟨b, 5, none⟩).isSome = true ∧ (W.cell? ⟨b, 6, none⟩).isSome = true ∧ (W.cell? ⟨b, 7, none⟩).isSome = true ∧ (W.cell? ⟨b, 8, none⟩).isSome = true ∧ (W.cell? ⟨b, 9, none⟩).isSome = true ∧ (W.cell? ⟨b, 10, none⟩).isSome = true ∧ (W.cell? ⟨b, 11, none⟩).isSome = true ∧ (W.cell? ⟨b, 12, none⟩).isSome = true ∧ (W.cell? ⟨b, 13, none⟩).isSome = true ∧ (W.cell? ⟨b, 14, none⟩).isSome = true ∧ (W.cell? ⟨b, 15, none⟩).isSome = true ∧ (W.cell? ⟨b, 16, none⟩).isSome = true ∧ (W.cell? ⟨b, 17, none⟩).isSome = true then .ok #[(W.cell? ⟨b, 0, none⟩).getD undef, (W.cell? ⟨b, 1, none⟩).getD undef, (W.cell? ⟨b, 2, none⟩).getD undef, (W.cell? ⟨b, 3, none⟩).getD undef, (W.cell? ⟨b, 4, none⟩).getD undef, (W.cell? ⟨b, 5, none⟩).getD undef, (W.cell? ⟨b, 6, none⟩).getD undef, (W.cell? ⟨b, 7, none⟩).getD undef, (W.cell? ⟨b, 8, none⟩).getD undef, (W.cell? ⟨b, 9, none⟩).getD undef, (W.cell? ⟨b, 10, none⟩).getD undef, (W.cell? ⟨b, 11, none⟩).getD undef, (W.cell? ⟨b, 12, none⟩).getD undef, (W.cell? ⟨b, 13, none⟩).getD undef, (W.cell? ⟨b, 14, none⟩).getD undef, (W.cell? ⟨b, 15, none⟩).getD undef, (W.cell? ⟨b, 16, none⟩).getD undef, (W.cell? ⟨b, 17, none⟩).getD undef] W else (ld18x ⟨b, 0, none⟩).run P W := by
  split
  · rename_i hc
    obtain ⟨h0, h1, h2, h3, h4, h5, h6, h7, h8, h9, h10, h11, h12, h13, h14, h15, h16, h17⟩ := hc
    have h : ∀ i, i < 18 → W.cell? ⟨b, i, none⟩ = some ((W.cell? ⟨b, i, none⟩).getD undef) := by
      intro i hi
      have hs : (W.cell? ⟨b, i, none⟩).isSome = true := by
        rcases (show i = 0 ∨ i = 1 ∨ i = 2 ∨ i = 3 ∨ i = 4 ∨ i = 5 ∨ i = 6 ∨ i = 7 ∨ i = 8 ∨ i = 9 ∨ i = 10 ∨ i = 11 ∨ i = 12 ∨ i = 13 ∨ i = 14 ∨ i = 15 ∨ i = 16 ∨ i = 17 by omega) with e | e | e | e | e | e | e | e | e | e | e | e | e | e | e | e | e | e <;> subst e <;> assumption
      cases hc : W.cell? ⟨b, i, none⟩ with
      | none => rw [hc] at hs; cases hs
      | some v => rfl
    exact ld18_run (P := P) W b (fun i => (W.cell? ⟨b, i, none⟩).getD undef) h
  · rfl
attribute [local irreducible] W4
attribute [local go_sem ↓] ld18_eq
attribute [local go_sem] ld18_got
section
variable (dn : Bool) (g t bl : Int) (wo co pa : Nat) (le mo : Int) (w : World) (B Fr : Nat) (s : Bool) (G V : Int)
  (cs : ∀ W, Calls Tryz.prog 121 #[LD dn g t bl wo co pa le mo, A4 B] W fun r w' => r = .returned (.tuple #[.bool s, .int .u64 G, A4 Fr]) ∧ Below W.heap.size W w')
  (ck : ∀ W, Calls Tryz.prog 122 #[LD dn g t bl wo co pa le mo, .int .u64 G] W fun r w' => r = .returned (.int .u64 V) ∧ Below W.heap.size W w')
include cs ck
set_option maxHeartbeats 1000000 in
theorem dmean_i (h30 : (V == 30) = true) : Calls Tryz.prog 93 #[LD dn g t bl wo co pa le mo, A4 B] w fun r w' => r = .returned (DV 2 s false 0 0) ∧ Below w.heap.size w w' := by
  have hsm := cell_set_map
  have hz : DV 2 s false 0 0 = .agg #[.int .i64 2, .bool s, .bool false, .int .i64 0, .int .u64 0, .int .u64 0, .int .u64 0, .int .u64 0] := by unfold DV; simp only [W4_zero]
  rw [hz]
  go_enter Tryz.func93, Tryz.ntmps93
  go_wp2_with (first
    | (go_at_call 121; refine (cs _).mono ?_; rintro r w1 ⟨rfl, hb1⟩; obtain ⟨hc1, hf1⟩ := bcell hb1; have hz1_0 : w.heap.size < w1.heap.size := lt_below hb1 ltg; have hl1_0 := Nat.le_of_lt hz1_0; have hz1_1 : w.heap.size + 1 < w1.heap.size := lt_below hb1 ltg; have hl1_1 := Nat.le_of_lt hz1_1; have hz1_2 : w.heap.size + 1 + 1 < w1.heap.size := lt_below hb1 ltg; have hl1_2 := Nat.le_of_lt hz1_2; have hA1 := bnext (w0 := w) bgo hb1; have hs1 := hA1.size; clear hb1)
    | (go_at_call 122; refine (ck _).mono ?_; rintro r w2 ⟨rfl, hb2⟩; obtain ⟨hc2, hf2⟩ := bcell hb2; have hz2_0 : w.heap.size < w2.heap.size := lt_below hb2 ltg; have hl2_0 := Nat.le_of_lt hz2_0; have hz2_1 : w.heap.size + 1 < w2.heap.size := lt_below hb2 ltg; have hl2_1 := Nat.le_of_lt hz2_1; have hz2_2 : w.heap.size + 1 + 1 < w2.heap.size := lt_below hb2 ltg; have hl2_2 := Nat.le_of_lt hz2_2; have hz2_3 : w1.heap.size < w2.heap.size := lt_below hb2 ltg; have hl2_3 := Nat.le_of_lt hz2_3; have hA2 := bnext (w0 := w) bgo hb2; have hs2 := hA2.size; clear hb2))
  exact bodyPost_ret (by simp only [results, Tryz.results93]; go_simp) rfl ⟨rfl, bgo⟩
variable (U K : Nat)
  (cr : ∀ W, Calls Tryz.prog 125 #[LD dn g t bl wo co pa le mo, A4 Fr] W fun r w' => r = .returned (A4 U) ∧ Below W.heap.size W w')
include cr
set_option maxHeartbeats 2000000 in
theorem dmean_n (q : Bool) (h30 : (V == 30) = false) (h31 : (V == 31) = true)
    (cq : ∀ W, Calls Tryz.prog 123 #[LD dn g t bl wo co pa le mo, .int .u64 G] W fun r w' => r = .returned (.bool q) ∧ Below W.heap.size W w')
    (co' : ∀ W, Calls Tryz.prog 124 #[A4 U, A4 pa] W fun r w' => r = .returned (A4 K) ∧ Below W.heap.size W w') :
    Calls Tryz.prog 93 #[LD dn g t bl wo co pa le mo, A4 B] w fun r w' => r = .returned (DV 3 s q 0 K) ∧ Below w.heap.size w w' := by
  have hsm := cell_set_map
  go_enter Tryz.func93, Tryz.ntmps93
  go_wp2_with (first
    | (go_at_call 121; refine (cs _).mono ?_; rintro r w1 ⟨rfl, hb1⟩; obtain ⟨hc1, hf1⟩ := bcell hb1; have hz1_0 : w.heap.size < w1.heap.size := lt_below hb1 ltg; have hl1_0 := Nat.le_of_lt hz1_0; have hz1_1 : w.heap.size + 1 < w1.heap.size := lt_below hb1 ltg; have hl1_1 := Nat.le_of_lt hz1_1; have hz1_2 : w.heap.size + 1 + 1 < w1.heap.size := lt_below hb1 ltg; have hl1_2 := Nat.le_of_lt hz1_2; have hA1 := bnext (w0 := w) bgo hb1; have hs1 := hA1.size; clear hb1)
    | (go_at_call 122; refine (ck _).mono ?_; rintro r w2 ⟨rfl, hb2⟩; obtain ⟨hc2, hf2⟩ := bcell hb2; have hz2_0 : w.heap.size < w2.heap.size := lt_below hb2 ltg; have hl2_0 := Nat.le_of_lt hz2_0; have hz2_1 : w.heap.size + 1 < w2.heap.size := lt_below hb2 ltg; have hl2_1 := Nat.le_of_lt hz2_1; have hz2_2 : w.heap.size + 1 + 1 < w2.heap.size := lt_below hb2 ltg; have hl2_2 := Nat.le_of_lt hz2_2; have hz2_3 : w1.heap.size < w2.heap.size := lt_below hb2 ltg; have hl2_3 := Nat.le_of_lt hz2_3; have hA2 := bnext (w0 := w) bgo hb2; have hs2 := hA2.size; clear hb2))
  refine wp_tail 10 (by kernel_rfl) (by kernel_rfl) (by kernel_rfl) (fun _ _ d _ _ h => by cases d <;> exact h) fun hne hcell => ?_
  simp only [List.take_succ_cons, List.take_zero, List.drop_succ_cons, List.drop_zero]
  repeat go_big_quiet_step (fail)
  go_big_quiet_step ((go_at_call 123; exact calls_wd _ bk_next (cq _)))
  repeat go_big_quiet_step (fail)
  go_big_quiet_step ((go_at_call 125; exact calls_wd _ bk_next (cr _)))
  repeat go_big_quiet_step (fail)
  go_big_quiet_step ((go_at_call 124; exact calls_wd _ bk_next (co' _)))
  repeat go_big_quiet_step (fail)
  refine wpQuiet_nil fun w3 hb3 => ?_
  obtain ⟨hc3, hf3⟩ := bcell hb3; have hz3_0 : w.heap.size < w3.heap.size := lt_below hb3 ltg; have hl3_0 := Nat.le_of_lt hz3_0; have hz3_1 : w.heap.size + 1 < w3.heap.size := lt_below hb3 ltg; have hl3_1 := Nat.le_of_lt hz3_1; have hz3_2 : w.heap.size + 1 + 1 < w3.heap.size := lt_below hb3 ltg; have hl3_2 := Nat.le_of_lt hz3_2; have hz3_3 : w1.heap.size < w3.heap.size := lt_below hb3 ltg; have hl3_3 := Nat.le_of_lt hz3_3; have hA3 := bnext (w0 := w) bgo hb3; have hs3 := hA3.size; clear hb3
  go_wp2
  exact bodyPost_ret (v := DV 3 s q 0 K) (by simp only [results, Tryz.results93]; go_simp) rfl ⟨rfl, bgo⟩
set_option maxHeartbeats 4000000 in
theorem dmean_f (F L c1 c2 : Int) (M C : Nat) (h30 : (V == 30) = false) (h31 : (V == 31) = false) (hF0 : 0 ≤ F) (hF1 : F ≤ 1000000) (hl0 : -1000000 ≤ le) (hl1 : le ≤ 1000000)
    (cp : ∀ W, Calls Tryz.prog 126 #[LD dn g t bl wo co pa le mo, .int .u64 G] W fun r w' => r = .returned (.tuple #[.int .u64 F, .int .u64 L]) ∧ Below W.heap.size W w')
    (cm : ∀ W, Calls Tryz.prog 127 #[A4 wo, .int .u64 L] W fun r w' => r = .returned (.tuple #[A4 M, .int .u64 c1]) ∧ Below W.heap.size W w')
    (ca : ∀ W, Calls Tryz.prog 86 #[A4 M, A4 U] W fun r w' => r = .returned (.tuple #[A4 C, .int .u64 c2]) ∧ Below W.heap.size W w')
    (co' : ∀ W, Calls Tryz.prog 124 #[A4 C, A4 co] W fun r w' => r = .returned (A4 K) ∧ Below W.heap.size W w') :
    Calls Tryz.prog 93 #[LD dn g t bl wo co pa le mo, A4 B] w fun r w' => r = .returned (DV 1 s false (F + le) K) ∧ Below w.heap.size w w' := by
  have hsm := cell_set_map
  go_enter Tryz.func93, Tryz.ntmps93
  go_wp2_with (first
    | (go_at_call 121; refine (cs _).mono ?_; rintro r w1 ⟨rfl, hb1⟩; obtain ⟨hc1, hf1⟩ := bcell hb1; have hz1_0 : w.heap.size < w1.heap.size := lt_below hb1 ltg; have hl1_0 := Nat.le_of_lt hz1_0; have hz1_1 : w.heap.size + 1 < w1.heap.size := lt_below hb1 ltg; have hl1_1 := Nat.le_of_lt hz1_1; have hz1_2 : w.heap.size + 1 + 1 < w1.heap.size := lt_below hb1 ltg; have hl1_2 := Nat.le_of_lt hz1_2; have hA1 := bnext (w0 := w) bgo hb1; have hs1 := hA1.size; clear hb1)
    | (go_at_call 122; refine (ck _).mono ?_; rintro r w2 ⟨rfl, hb2⟩; obtain ⟨hc2, hf2⟩ := bcell hb2; have hz2_0 : w.heap.size < w2.heap.size := lt_below hb2 ltg; have hl2_0 := Nat.le_of_lt hz2_0; have hz2_1 : w.heap.size + 1 < w2.heap.size := lt_below hb2 ltg; have hl2_1 := Nat.le_of_lt hz2_1; have hz2_2 : w.heap.size + 1 + 1 < w2.heap.size := lt_below hb2 ltg; have hl2_2 := Nat.le_of_lt hz2_2; have hz2_3 : w1.heap.size < w2.heap.size := lt_below hb2 ltg; have hl2_3 := Nat.le_of_lt hz2_3; have hA2 := bnext (w0 := w) bgo hb2; have hs2 := hA2.size; clear hb2)
    | (go_at_call 126; refine (cp _).mono ?_; rintro r w3 ⟨rfl, hb3⟩; obtain ⟨hc3, hf3⟩ := bcell hb3; have hz3_0 : w.heap.size < w3.heap.size := lt_below hb3 ltg; have hl3_0 := Nat.le_of_lt hz3_0; have hz3_1 : w.heap.size + 1 < w3.heap.size := lt_below hb3 ltg; have hl3_1 := Nat.le_of_lt hz3_1; have hz3_2 : w.heap.size + 1 + 1 < w3.heap.size := lt_below hb3 ltg; have hl3_2 := Nat.le_of_lt hz3_2; have hz3_3 : w1.heap.size < w3.heap.size := lt_below hb3 ltg; have hl3_3 := Nat.le_of_lt hz3_3; have hA3 := bnext (w0 := w) bgo hb3; have hs3 := hA3.size; clear hb3)
    | (go_at_call 127; refine (cm _).mono ?_; rintro r w4 ⟨rfl, hb4⟩; obtain ⟨hc4, hf4⟩ := bcell hb4; have hz4_0 : w.heap.size < w4.heap.size := lt_below hb4 ltg; have hl4_0 := Nat.le_of_lt hz4_0; have hz4_1 : w.heap.size + 1 < w4.heap.size := lt_below hb4 ltg; have hl4_1 := Nat.le_of_lt hz4_1; have hz4_2 : w.heap.size + 1 + 1 < w4.heap.size := lt_below hb4 ltg; have hl4_2 := Nat.le_of_lt hz4_2; have hz4_3 : w1.heap.size < w4.heap.size := lt_below hb4 ltg; have hl4_3 := Nat.le_of_lt hz4_3; have hA4 := bnext (w0 := w) bgo hb4; have hs4 := hA4.size; clear hb4))
  refine wp_tail 5 (by kernel_rfl) (by kernel_rfl) (by kernel_rfl) (fun _ _ d _ _ h => by cases d <;> exact h) fun hne hcell => ?_
  simp only [List.take_succ_cons, List.take_zero, List.drop_succ_cons, List.drop_zero]
  repeat go_big_quiet_step (fail)
  go_big_quiet_step ((go_at_call 125; exact calls_wd _ bk_next (cr _)))
  repeat go_big_quiet_step (fail)
  go_big_quiet_step ((go_at_call 86; exact calls_wd _ bk_next (ca _)))
  repeat go_big_quiet_step (fail)
  refine wpQuiet_nil fun w5 hb5 => ?_
  obtain ⟨hc5, hf5⟩ := bcell hb5; have hz5_0 : w.heap.size < w5.heap.size := lt_below hb5 ltg; have hl5_0 := Nat.le_of_lt hz5_0; have hz5_1 : w.heap.size + 1 < w5.heap.size := lt_below hb5 ltg; have hl5_1 := Nat.le_of_lt hz5_1; have hz5_2 : w.heap.size + 1 + 1 < w5.heap.size := lt_below hb5 ltg; have hl5_2 := Nat.le_of_lt hz5_2; have hz5_3 : w1.heap.size < w5.heap.size := lt_below hb5 ltg; have hl5_3 := Nat.le_of_lt hz5_3; have hz5_4 : w4.heap.size < w5.heap.size := lt_below hb5 ltg; have hl5_4 := Nat.le_of_lt hz5_4; have hA5 := bnext (w0 := w) bgo hb5; have hs5 := hA5.size; clear hb5
  go_wp2
  refine wp_tail 10 (by kernel_rfl) (by kernel_rfl) (by kernel_rfl) (fun _ _ d _ _ h => by cases d <;> exact h) fun hne hcell => ?_
  simp only [List.take_succ_cons, List.take_zero, List.drop_succ_cons, List.drop_zero]
  repeat go_big_quiet_step (fail)
  go_big_quiet_step ((go_at_call 124; exact calls_wd _ bk_next (co' _)))
  repeat go_big_quiet_step (fail)
  refine wpQuiet_nil fun w6 hb6 => ?_
  obtain ⟨hc6, hf6⟩ := bcell hb6; have hz6_0 : w.heap.size < w6.heap.size := lt_below hb6 ltg; have hl6_0 := Nat.le_of_lt hz6_0; have hz6_1 : w.heap.size + 1 < w6.heap.size := lt_below hb6 ltg; have hl6_1 := Nat.le_of_lt hz6_1; have hz6_2 : w.heap.size + 1 + 1 < w6.heap.size := lt_below hb6 ltg; have hl6_2 := Nat.le_of_lt hz6_2; have hz6_3 : w1.heap.size < w6.heap.size := lt_below hb6 ltg; have hl6_3 := Nat.le_of_lt hz6_3; have hz6_4 : w4.heap.size < w6.heap.size := lt_below hb6 ltg; have hl6_4 := Nat.le_of_lt hz6_4; have hA6 := bnext (w0 := w) bgo hb6; have hs6 := hA6.size; clear hb6
  go_wp2
  exact bodyPost_ret (v := DV 1 s false (F + le) K) (by simp only [results, Tryz.results93]; go_simp) rfl ⟨rfl, bgo⟩
end
section
variable (dn : Bool) (g t bl : Int) (wo co pa : Nat) (le mo : Int) (w : World) (c x : Int) (s q : Bool) (k P : Nat) (E : Int)
set_option maxHeartbeats 1000000 in
theorem dpack_1 (h : ∀ W, Calls Tryz.prog 128 #[LD dn g t bl wo co pa le mo, DV 1 s q x k] W fun r w' => r = .returned (.tuple #[A4 P, .int .i64 E]) ∧ Below W.heap.size W w') :
    Calls Tryz.prog 94 #[LD dn g t bl wo co pa le mo, DV 1 s q x k] w fun r w' => r = .returned (.tuple #[A4 P, .int .i64 E]) ∧ Below w.heap.size w w' := by
  have hsm := cell_set_map
  go_enter Tryz.func94, Tryz.ntmps94
  go_wp2_with (go_at_call 128; refine (h _).mono ?_; rintro r w1 ⟨rfl, hb1⟩; obtain ⟨hc1, hf1⟩ := bcell hb1; have hz1_0 : w.heap.size < w1.heap.size := lt_below hb1 ltg; have hl1_0 := Nat.le_of_lt hz1_0; have hz1_1 : w.heap.size + 1 < w1.heap.size := lt_below hb1 ltg; have hl1_1 := Nat.le_of_lt hz1_1; have hz1_2 : w.heap.size + 1 + 1 < w1.heap.size := lt_below hb1 ltg; have hl1_2 := Nat.le_of_lt hz1_2; have hA1 := bnext (w0 := w) bgo hb1; have hs1 := hA1.size; clear hb1)
  exact bodyPost_ret (v := .tuple #[A4 P, .int .i64 E]) (by simp only [results, Tryz.results94]; go_simp) rfl ⟨rfl, bgo⟩
set_option maxHeartbeats 1000000 in
theorem dpack_2 (h : ∀ W, Calls Tryz.prog 129 #[LD dn g t bl wo co pa le mo, DV 2 s q x k] W fun r w' => r = .returned (.tuple #[A4 P, .int .i64 E]) ∧ Below W.heap.size W w') :
    Calls Tryz.prog 94 #[LD dn g t bl wo co pa le mo, DV 2 s q x k] w fun r w' => r = .returned (.tuple #[A4 P, .int .i64 E]) ∧ Below w.heap.size w w' := by
  have hsm := cell_set_map
  go_enter Tryz.func94, Tryz.ntmps94
  go_wp2_with (go_at_call 129; refine (h _).mono ?_; rintro r w1 ⟨rfl, hb1⟩; obtain ⟨hc1, hf1⟩ := bcell hb1; have hz1_0 : w.heap.size < w1.heap.size := lt_below hb1 ltg; have hl1_0 := Nat.le_of_lt hz1_0; have hz1_1 : w.heap.size + 1 < w1.heap.size := lt_below hb1 ltg; have hl1_1 := Nat.le_of_lt hz1_1; have hz1_2 : w.heap.size + 1 + 1 < w1.heap.size := lt_below hb1 ltg; have hl1_2 := Nat.le_of_lt hz1_2; have hA1 := bnext (w0 := w) bgo hb1; have hs1 := hA1.size; clear hb1)
  exact bodyPost_ret (v := .tuple #[A4 P, .int .i64 E]) (by simp only [results, Tryz.results94]; go_simp) rfl ⟨rfl, bgo⟩
set_option maxHeartbeats 1000000 in
theorem dpack_3 (h : ∀ W, Calls Tryz.prog 130 #[LD dn g t bl wo co pa le mo, DV 3 s q x k] W fun r w' => r = .returned (.tuple #[A4 P, .int .i64 E]) ∧ Below W.heap.size W w') :
    Calls Tryz.prog 94 #[LD dn g t bl wo co pa le mo, DV 3 s q x k] w fun r w' => r = .returned (.tuple #[A4 P, .int .i64 E]) ∧ Below w.heap.size w w' := by
  have hsm := cell_set_map
  go_enter Tryz.func94, Tryz.ntmps94
  go_wp2_with (go_at_call 130; refine (h _).mono ?_; rintro r w1 ⟨rfl, hb1⟩; obtain ⟨hc1, hf1⟩ := bcell hb1; have hz1_0 : w.heap.size < w1.heap.size := lt_below hb1 ltg; have hl1_0 := Nat.le_of_lt hz1_0; have hz1_1 : w.heap.size + 1 < w1.heap.size := lt_below hb1 ltg; have hl1_1 := Nat.le_of_lt hz1_1; have hz1_2 : w.heap.size + 1 + 1 < w1.heap.size := lt_below hb1 ltg; have hl1_2 := Nat.le_of_lt hz1_2; have hA1 := bnext (w0 := w) bgo hb1; have hs1 := hA1.size; clear hb1)
  exact bodyPost_ret (v := .tuple #[A4 P, .int .i64 E]) (by simp only [results, Tryz.results94]; go_simp) rfl ⟨rfl, bgo⟩
set_option maxHeartbeats 1000000 in
theorem dpack_0 (h1 : (c == 1) = false) (h2 : (c == 2) = false) (h3 : (c == 3) = false) :
    Calls Tryz.prog 94 #[LD dn g t bl wo co pa le mo, DV c s q x k] w fun r w' => r = .returned (.tuple #[A4 0, .int .i64 3]) ∧ Below w.heap.size w w' := by
  have hsm := cell_set_map
  rw [Z4_eq]
  go_enter Tryz.func94, Tryz.ntmps94
  go_wp2
  exact bodyPost_ret (by simp only [results, Tryz.results94]; go_simp) rfl ⟨rfl, bgo⟩
end
section
variable (dn : Bool) (g t bl : Int) (wo co pa : Nat) (le mo : Int) (w : World) (x : Int) (s q : Bool) (k J : Nat) (G : Int)
set_option maxHeartbeats 1000000 in
theorem dinf_s : Calls Tryz.prog 129 #[LD dn g t bl wo co pa le mo, DV 2 s true x k] w fun r w' => r = .returned (.tuple #[A4 0, .int .i64 3]) ∧ Below w.heap.size w w' := by
  have hsm := cell_set_map
  rw [Z4_eq]
  go_enter Tryz.func129, Tryz.ntmps129
  go_wp2
  exact bodyPost_ret (by simp only [results, Tryz.results129]; go_simp) rfl ⟨rfl, bgo⟩
set_option maxHeartbeats 1000000 in
theorem dinf_x (hx : (x != 0) = true) : Calls Tryz.prog 129 #[LD dn g t bl wo co pa le mo, DV 2 s false x k] w fun r w' => r = .returned (.tuple #[A4 0, .int .i64 3]) ∧ Below w.heap.size w w' := by
  have hsm := cell_set_map
  rw [Z4_eq]
  go_enter Tryz.func129, Tryz.ntmps129
  go_wp2
  exact bodyPost_ret (by simp only [results, Tryz.results129]; go_simp) rfl ⟨rfl, bgo⟩
set_option maxHeartbeats 1000000 in
theorem dinf_k (hk : decide (W4 k 0 = 0 ∧ W4 k 1 = 0 ∧ W4 k 2 = 0 ∧ W4 k 3 = 0) = false) : Calls Tryz.prog 129 #[LD dn g t bl wo co pa le mo, DV 2 s false 0 k] w fun r w' => r = .returned (.tuple #[A4 0, .int .i64 3]) ∧ Below w.heap.size w w' := by
  have hsm := cell_set_map
  have hq := eq24 (W4 k 0) (W4 k 1) (W4 k 2) (W4 k 3) 0 0 0 0
  rw [hk] at hq
  rw [Z4_eq]
  go_enter Tryz.func129, Tryz.ntmps129
  go_wp2
  exact bodyPost_ret (by simp only [results, Tryz.results129]; go_simp) rfl ⟨rfl, bgo⟩
set_option maxHeartbeats 2000000 in
theorem dinf_y
    (cp : ∀ W, Calls Tryz.prog 159 #[LD dn g t bl wo co pa le mo, .int .u64 30, .bool false] W fun r w' => r = .returned (.int .u64 G) ∧ Below W.heap.size W w')
    (cj : ∀ W, Calls Tryz.prog 156 #[LD dn g t bl wo co pa le mo, .bool s, .int .u64 G, Z4] W fun r w' => r = .returned (A4 J) ∧ Below W.heap.size W w') :
    Calls Tryz.prog 129 #[LD dn g t bl wo co pa le mo, DV 2 s false 0 0] w fun r w' => r = .returned (.tuple #[A4 J, .int .i64 0]) ∧ Below w.heap.size w w' := by
  have hsm := cell_set_map
  have hz : DV 2 s false 0 0 = .agg #[.int .i64 2, .bool s, .bool false, .int .i64 0, .int .u64 0, .int .u64 0, .int .u64 0, .int .u64 0] := by unfold DV; simp only [W4_zero]
  rw [hz]
  unfold Z4 at *
  have hq := eq24 0 0 0 0 0 0 0 0
  simp only [and_self, decide_true] at hq
  go_enter Tryz.func129, Tryz.ntmps129
  go_wp2
  refine wp_tail 7 (by kernel_rfl) (by kernel_rfl) (by kernel_rfl) (fun _ _ d _ _ h => by cases d <;> exact h) fun hne hcell => ?_
  simp only [List.take_succ_cons, List.take_zero, List.drop_succ_cons, List.drop_zero]
  repeat go_big_quiet_step (fail)
  go_big_quiet_step ((go_at_call 159; exact calls_wd _ bk_next (cp _)))
  repeat go_big_quiet_step (fail)
  go_big_quiet_step ((go_at_call 156; exact calls_wd _ bk_next (cj _)))
  repeat go_big_quiet_step (fail)
  refine wpQuiet_nil fun w1 hb1 => ?_
  obtain ⟨hc1, hf1⟩ := bcell hb1; have hz1_0 : w.heap.size < w1.heap.size := lt_below hb1 ltg; have hl1_0 := Nat.le_of_lt hz1_0; have hz1_1 : w.heap.size + 1 < w1.heap.size := lt_below hb1 ltg; have hl1_1 := Nat.le_of_lt hz1_1; have hz1_2 : w.heap.size + 1 + 1 < w1.heap.size := lt_below hb1 ltg; have hl1_2 := Nat.le_of_lt hz1_2; have hA1 := bnext (w0 := w) bgo hb1; have hs1 := hA1.size; clear hb1
  go_wp2
  exact bodyPost_ret (v := .tuple #[A4 J, .int .i64 0]) (by simp only [results, Tryz.results129]; go_simp) rfl ⟨rfl, bgo⟩
set_option maxHeartbeats 1000000 in
theorem dnan_x (hx : (x != 0) = true) : Calls Tryz.prog 130 #[LD dn g t bl wo co pa le mo, DV 3 s q x k] w fun r w' => r = .returned (.tuple #[A4 0, .int .i64 3]) ∧ Below w.heap.size w w' := by
  have hsm := cell_set_map
  rw [Z4_eq]
  go_enter Tryz.func130, Tryz.ntmps130
  go_wp2
  exact bodyPost_ret (by simp only [results, Tryz.results130]; go_simp) rfl ⟨rfl, bgo⟩
variable (Q : Int) (cc : ∀ W, Calls Tryz.prog 154 #[A4 k, A4 pa] W fun r w' => r = .returned (.int .i64 Q) ∧ Below W.heap.size W w')
include cc
set_option maxHeartbeats 1000000 in
theorem dnan_k (hQ : 0 ≤ Q) : Calls Tryz.prog 130 #[LD dn g t bl wo co pa le mo, DV 3 s q 0 k] w fun r w' => r = .returned (.tuple #[A4 0, .int .i64 3]) ∧ Below w.heap.size w w' := by
  have hsm := cell_set_map
  rw [Z4_eq]
  go_enter Tryz.func130, Tryz.ntmps130
  go_wp2_with (go_at_call 154; refine (cc _).mono ?_; rintro r w1 ⟨rfl, hb1⟩; obtain ⟨hc1, hf1⟩ := bcell hb1; have hz1_0 : w.heap.size < w1.heap.size := lt_below hb1 ltg; have hl1_0 := Nat.le_of_lt hz1_0; have hz1_1 : w.heap.size + 1 < w1.heap.size := lt_below hb1 ltg; have hl1_1 := Nat.le_of_lt hz1_1; have hz1_2 : w.heap.size + 1 + 1 < w1.heap.size := lt_below hb1 ltg; have hl1_2 := Nat.le_of_lt hz1_2; have hz1_3 : w.heap.size + 1 + 1 + 1 < w1.heap.size := lt_below hb1 ltg; have hl1_3 := Nat.le_of_lt hz1_3; have hA1 := bnext (w0 := w) bgo hb1; have hs1 := hA1.size; clear hb1)
  exact bodyPost_ret (by simp only [results, Tryz.results130]; go_simp) rfl ⟨rfl, bgo⟩
set_option maxHeartbeats 2000000 in
theorem dnan_y (R : Nat) (hQ : ¬ 0 ≤ Q)
    (cp : ∀ W, Calls Tryz.prog 159 #[LD dn g t bl wo co pa le mo, .int .u64 31, .bool q] W fun r w' => r = .returned (.int .u64 G) ∧ Below W.heap.size W w')
    (cw : ∀ W, Calls Tryz.prog 158 #[LD dn g t bl wo co pa le mo, A4 k] W fun r w' => r = .returned (A4 R) ∧ Below W.heap.size W w')
    (cj : ∀ W, Calls Tryz.prog 156 #[LD dn g t bl wo co pa le mo, .bool s, .int .u64 G, A4 R] W fun r w' => r = .returned (A4 J) ∧ Below W.heap.size W w') :
    Calls Tryz.prog 130 #[LD dn g t bl wo co pa le mo, DV 3 s q 0 k] w fun r w' => r = .returned (.tuple #[A4 J, .int .i64 0]) ∧ Below w.heap.size w w' := by
  have hsm := cell_set_map
  go_enter Tryz.func130, Tryz.ntmps130
  go_wp2_with (go_at_call 154; refine (cc _).mono ?_; rintro r w1 ⟨rfl, hb1⟩; obtain ⟨hc1, hf1⟩ := bcell hb1; have hz1_0 : w.heap.size < w1.heap.size := lt_below hb1 ltg; have hl1_0 := Nat.le_of_lt hz1_0; have hz1_1 : w.heap.size + 1 < w1.heap.size := lt_below hb1 ltg; have hl1_1 := Nat.le_of_lt hz1_1; have hz1_2 : w.heap.size + 1 + 1 < w1.heap.size := lt_below hb1 ltg; have hl1_2 := Nat.le_of_lt hz1_2; have hz1_3 : w.heap.size + 1 + 1 + 1 < w1.heap.size := lt_below hb1 ltg; have hl1_3 := Nat.le_of_lt hz1_3; have hA1 := bnext (w0 := w) bgo hb1; have hs1 := hA1.size; clear hb1)
  refine wp_tail 11 (by kernel_rfl) (by kernel_rfl) (by kernel_rfl) (fun _ _ d _ _ h => by cases d <;> exact h) fun hne hcell => ?_
  simp only [List.take_succ_cons, List.take_zero, List.drop_succ_cons, List.drop_zero]
  repeat go_big_quiet_step (fail)
  go_big_quiet_step ((go_at_call 159; exact calls_wd _ bk_next (cp _)))
  repeat go_big_quiet_step (fail)
  go_big_quiet_step ((go_at_call 158; exact calls_wd _ bk_next (cw _)))
  repeat go_big_quiet_step (fail)
  go_big_quiet_step ((go_at_call 156; exact calls_wd _ bk_next (cj _)))
  repeat go_big_quiet_step (fail)
  refine wpQuiet_nil fun w2 hb2 => ?_
  obtain ⟨hc2, hf2⟩ := bcell hb2; have hz2_0 : w.heap.size < w2.heap.size := lt_below hb2 ltg; have hl2_0 := Nat.le_of_lt hz2_0; have hz2_1 : w.heap.size + 1 < w2.heap.size := lt_below hb2 ltg; have hl2_1 := Nat.le_of_lt hz2_1; have hz2_2 : w.heap.size + 1 + 1 < w2.heap.size := lt_below hb2 ltg; have hl2_2 := Nat.le_of_lt hz2_2; have hz2_3 : w.heap.size + 1 + 1 + 1 < w2.heap.size := lt_below hb2 ltg; have hl2_3 := Nat.le_of_lt hz2_3; have hA2 := bnext (w0 := w) bgo hb2; have hs2 := hA2.size; clear hb2
  go_wp2
  exact bodyPost_ret (v := .tuple #[A4 J, .int .i64 0]) (by simp only [results, Tryz.results130]; go_simp) rfl ⟨rfl, bgo⟩
end
end
section
theorem bcelln {n : Nat} {W w1 : World} (hb : Below n W w1) : (∀ b o, b < n → w1.cell? ⟨b, o, none⟩ = W.cell? ⟨b, o, none⟩) ∧ (∀ b o, b < n → w1.frozen? ⟨b, o, none⟩ = W.frozen? ⟨b, o, none⟩) :=
  ⟨fun b o h => hb.cell (p := ⟨b, o, none⟩) h, fun b o h => hb.frozen (p := ⟨b, o, none⟩) h⟩
theorem below_put {n g X : Nat} {a W : World} (h : Below n a W) (hg : n ≤ g) : Below n a (put4C W g X) :=
  (((h.setCell hg _).setCell hg _).setCell hg _).setCell hg _
attribute [local irreducible] W4
attribute [local go_sem ↓] ld18_eq
attribute [local go_sem] ld18_got
section
variable (dn : Bool) (g t bl : Int) (wo co pa : Nat) (le mo : Int) (w : World) (x : Int) (s q : Bool) (k J : Nat) (G : Int)
set_option maxHeartbeats 1000000 in
theorem dfin_s : Calls Tryz.prog 128 #[LD dn g t bl wo co pa le mo, DV 1 s true x k] w fun r w' => r = .returned (.tuple #[A4 0, .int .i64 3]) ∧ Below w.heap.size w w' := by
  have hsm := cell_set_map
  rw [Z4_eq]
  go_enter Tryz.func128, Tryz.ntmps128
  go_wp2
  exact bodyPost_ret (by simp only [results, Tryz.results128]; go_simp) rfl ⟨rfl, bgo⟩
set_option maxHeartbeats 1000000 in
theorem dfin_l (h : x < le) : Calls Tryz.prog 128 #[LD dn g t bl wo co pa le mo, DV 1 s false x k] w fun r w' => r = .returned (.tuple #[A4 0, .int .i64 3]) ∧ Below w.heap.size w w' := by
  have hsm := cell_set_map
  rw [Z4_eq]
  go_enter Tryz.func128, Tryz.ntmps128
  go_wp2
  exact bodyPost_ret (by simp only [results, Tryz.results128]; go_simp) rfl ⟨rfl, bgo⟩
set_option maxHeartbeats 1000000 in
theorem dfin_m (h1 : ¬ x < le) (h2 : mo < x) : Calls Tryz.prog 128 #[LD dn g t bl wo co pa le mo, DV 1 s false x k] w fun r w' => r = .returned (.tuple #[A4 0, .int .i64 3]) ∧ Below w.heap.size w w' := by
  have hsm := cell_set_map
  rw [Z4_eq]
  go_enter Tryz.func128, Tryz.ntmps128
  go_wp2
  exact bodyPost_ret (by simp only [results, Tryz.results128]; go_simp) rfl ⟨rfl, bgo⟩
variable (Q : Int) (cc : ∀ W, Calls Tryz.prog 154 #[A4 k, A4 co] W fun r w' => r = .returned (.int .i64 Q) ∧ Below W.heap.size W w') (h1 : ¬ x < le) (h2 : ¬ mo < x)
include cc h1 h2
set_option maxHeartbeats 1000000 in
theorem dfin_k (hQ : 0 ≤ Q) : Calls Tryz.prog 128 #[LD dn g t bl wo co pa le mo, DV 1 s false x k] w fun r w' => r = .returned (.tuple #[A4 0, .int .i64 3]) ∧ Below w.heap.size w w' := by
  have hsm := cell_set_map
  rw [Z4_eq]
  go_enter Tryz.func128, Tryz.ntmps128
  go_wp2_with (go_at_call 154; refine (cc _).mono ?_; rintro r w1 ⟨rfl, hb1⟩; obtain ⟨hc1, hf1⟩ := bcell hb1; have hz1_0 : w.heap.size < w1.heap.size := lt_below hb1 ltg; have hl1_0 := Nat.le_of_lt hz1_0; have hz1_1 : w.heap.size + 1 < w1.heap.size := lt_below hb1 ltg; have hl1_1 := Nat.le_of_lt hz1_1; have hz1_2 : w.heap.size + 1 + 1 < w1.heap.size := lt_below hb1 ltg; have hl1_2 := Nat.le_of_lt hz1_2; have hz1_3 : w.heap.size + 1 + 1 + 1 < w1.heap.size := lt_below hb1 ltg; have hl1_3 := Nat.le_of_lt hz1_3; have hA1 := bnext (w0 := w) bgo hb1; have hs1 := hA1.size; clear hb1)
  exact bodyPost_ret (by simp only [results, Tryz.results128]; go_simp) rfl ⟨rfl, bgo⟩
set_option maxHeartbeats 4000000 in
theorem dfin_y (hQ : ¬ 0 ≤ Q) (m : Nat) (hm : m ≤ 100) (R : Nat → Nat) (qc cr : Nat → Int) (hR : R 0 = k) (T : Nat) (hl0 : -1000000 ≤ le) (hl1 : le ≤ 1000000) (hx1 : x ≤ 1000000) (gl : Int)
    (cq : Hid (∀ i, i ≤ m → ∀ W, Calls Tryz.prog 154 #[A4 (R i), A4 wo] W fun r w' => r = .returned (.int .i64 (qc i)) ∧ Below W.heap.size W w'))
    (hq1 : Hid (∀ i, i < m → 0 ≤ qc i)) (hq2 : Hid (¬ 0 ≤ qc m))
    (cu : Hid (∀ i, i < m → ∀ W, Calls Tryz.prog 85 #[A4 (R i), A4 wo] W fun r w' => r = .returned (.tuple #[A4 (R (i + 1)), .int .u64 (cr i)]) ∧ Below W.heap.size W w'))
    (cn : ∀ W, Calls Tryz.prog 157 #[LD dn g t bl wo co pa le mo, .int .u64 (x - le), .int .u64 (m : Int)] W fun r w' => r = .returned (.int .u64 gl) ∧ Below W.heap.size W w')
    (cw : ∀ W, Calls Tryz.prog 158 #[LD dn g t bl wo co pa le mo, A4 (R m)] W fun r w' => r = .returned (A4 T) ∧ Below W.heap.size W w')
    (cj : ∀ W, Calls Tryz.prog 156 #[LD dn g t bl wo co pa le mo, .bool s, .int .u64 gl, A4 T] W fun r w' => r = .returned (A4 J) ∧ Below W.heap.size W w') :
    Calls Tryz.prog 128 #[LD dn g t bl wo co pa le mo, DV 1 s false x k] w fun r w' => r = .returned (.tuple #[A4 J, .int .i64 0]) ∧ Below w.heap.size w w' := by
  have hsm := cell_set_map
  have hxl0 : 0 ≤ x - le := by omega
  have hxl1 : x - le ≤ 2000000 := by omega
  go_enter Tryz.func128, Tryz.ntmps128
  go_wp2_with (go_at_call 154; refine (cc _).mono ?_; rintro r w1 ⟨rfl, hb1⟩; clear cc; obtain ⟨hc1, hf1⟩ := bcell hb1; have hz1_0 : w.heap.size < w1.heap.size := lt_below hb1 ltg; have hl1_0 := Nat.le_of_lt hz1_0; have hz1_1 : w.heap.size + 1 < w1.heap.size := lt_below hb1 ltg; have hl1_1 := Nat.le_of_lt hz1_1; have hz1_2 : w.heap.size + 1 + 1 < w1.heap.size := lt_below hb1 ltg; have hl1_2 := Nat.le_of_lt hz1_2; have hz1_3 : w.heap.size + 1 + 1 + 1 < w1.heap.size := lt_below hb1 ltg; have hl1_3 := Nat.le_of_lt hz1_3; have hA1 := bnext (w0 := w) bgo hb1; have hs1 := hA1.size; clear hb1)
  go_loopw [7, 34, 35, 36, 37, 38, 39, 40, 41, 42, 43, 44, 45, 46, 47] (fun t _ _ _ _ _ _ _ _ _ _ _ _ _ _ wr => ∃ (i : Nat), i ≤ m ∧ t = .int .u64 (i : Int) ∧ C4 (w.heap.size + 1 + 1 + 1) (R i) wr ∧ Below (w.heap.size + 1 + 1 + 1) w1 wr ∧ Below w.heap.size w wr) (fun t _ _ _ _ _ _ _ _ _ _ _ _ _ _ _ => m - (intOf t).toNat)
  case atStart =>
    refine ⟨0, Nat.zero_le _, rfl, ?_, Below.refl _ _, bgo⟩
    rw [hR]; refine ⟨by omega, ?_, ?_, ?_, ?_, ?_, ?_, ?_, ?_⟩ <;> go_simp
  case round =>
    obtain ⟨i, hi, rfl, h3, hbw, hbx⟩ := hrel
    have hl3 := h3.lt
    have hl2 : w.heap.size + 1 + 1 < wr.heap.size := by omega
    have hl1 : w.heap.size + 1 < wr.heap.size := by omega
    have hl0 : w.heap.size < wr.heap.size := by omega
    have z0 : w.heap.size < w.heap.size + 1 + 1 + 1 := by omega
    have z1 : w.heap.size + 1 < w.heap.size + 1 + 1 + 1 := by omega
    have z2 : w.heap.size + 1 + 1 < w.heap.size + 1 + 1 + 1 := by omega
    obtain ⟨hcw, hfw⟩ := bcelln hbw
    obtain ⟨_, o0, o1, o2, o3, g0, g1, g2, g3⟩ := id h3
    have dq := cq.out i hi
    by_cases hic : i < m
    · have du := cu.out i hic
      have hq := hq1.out i hic
      have hi0 : (0 : Int) ≤ (i : Int) := by omega
      have hi1 : (i : Int) ≤ 100 := by omega
      generalize R i = Ri at *
      generalize qc i = Qi at *
      go_wp2_with (first
        | (go_at_call 154; refine (dq _).mono ?_; rintro r w2 ⟨rfl, hb2⟩; have hn3 := h3.next hb2; have hbw2 := hbw.trans (hb2.mono (by omega)); obtain ⟨hc2, hf2⟩ := bcell hb2; have hz2_0 : w.heap.size < w2.heap.size := lt_below hb2 ltg; have hl2_0 := Nat.le_of_lt hz2_0; have hz2_1 : w.heap.size + 1 < w2.heap.size := lt_below hb2 ltg; have hl2_1 := Nat.le_of_lt hz2_1; have hz2_2 : w.heap.size + 1 + 1 < w2.heap.size := lt_below hb2 ltg; have hl2_2 := Nat.le_of_lt hz2_2; have hz2_3 : w.heap.size + 1 + 1 + 1 < w2.heap.size := lt_below hb2 ltg; have hl2_3 := Nat.le_of_lt hz2_3; have hA2 := bnext (w0 := w) bgo hb2; have hs2 := hA2.size; clear hb2)
        | (go_at_call 85; refine (du _).mono ?_; rintro r w3 ⟨rfl, hb3⟩; have hm3 := hn3.next hb3; have hbw3 := hbw2.trans (hb3.mono (by omega)); obtain ⟨hc3, hf3⟩ := bcell hb3; have hz3_0 : w.heap.size < w3.heap.size := lt_below hb3 ltg; have hl3_0 := Nat.le_of_lt hz3_0; have hz3_1 : w.heap.size + 1 < w3.heap.size := lt_below hb3 ltg; have hl3_1 := Nat.le_of_lt hz3_1; have hz3_2 : w.heap.size + 1 + 1 < w3.heap.size := lt_below hb3 ltg; have hl3_2 := Nat.le_of_lt hz3_2; have hz3_3 : w.heap.size + 1 + 1 + 1 < w3.heap.size := lt_below hb3 ltg; have hl3_3 := Nat.le_of_lt hz3_3; have hA3 := bnext (w0 := w) bgo hb3; have hs3 := hA3.size; clear hb3))
      go_roundw
      case rel => exact ⟨i + 1, by omega, by go_num, hm3.put, below_put hbw3 (by omega), bgo⟩
      case measure => simp [intOf]; omega
    · obtain rfl : i = m := by omega
      have hq := hq2.out
      clear cq cu hq1 hq2
      generalize R i = Ri at *
      generalize qc i = Qi at *
      generalize (i : Int) = mi at *
      go_wp2_with (go_at_call 154; refine (dq _).mono ?_; rintro r w2 ⟨rfl, hb2⟩; clear dq; obtain ⟨hc2, hf2⟩ := bcell hb2; have hz2_0 : w.heap.size < w2.heap.size := lt_below hb2 ltg; have hl2_0 := Nat.le_of_lt hz2_0; have hz2_1 : w.heap.size + 1 < w2.heap.size := lt_below hb2 ltg; have hl2_1 := Nat.le_of_lt hz2_1; have hz2_2 : w.heap.size + 1 + 1 < w2.heap.size := lt_below hb2 ltg; have hl2_2 := Nat.le_of_lt hz2_2; have hz2_3 : w.heap.size + 1 + 1 + 1 < w2.heap.size := lt_below hb2 ltg; have hl2_3 := Nat.le_of_lt hz2_3; have hA2 := bnext (w0 := w) bgo hb2; have hs2 := hA2.size; clear hb2)
      refine wp_tail 16 (by kernel_rfl) (by kernel_rfl) (by kernel_rfl) (fun _ _ d _ _ h => by cases d <;> exact h) fun hne hcell => ?_
      simp only [List.take_succ_cons, List.take_zero, List.drop_succ_cons, List.drop_zero]
      repeat go_big_quiet_step (fail)
      go_big_quiet_step ((go_at_call 157; exact calls_wd _ bk_next (cn _)))
      repeat go_big_quiet_step (fail)
      go_big_quiet_step ((go_at_call 158; exact calls_wd _ bk_next (cw _)))
      repeat go_big_quiet_step (fail)
      go_big_quiet_step ((go_at_call 156; exact calls_wd _ bk_next (cj _)))
      repeat go_big_quiet_step (fail)
      refine wpQuiet_nil fun w3 hb3 => ?_
      obtain ⟨hc3, hf3⟩ := bcell hb3; have hz3_0 : w.heap.size < w3.heap.size := lt_below hb3 ltg; have hl3_0 := Nat.le_of_lt hz3_0; have hz3_1 : w.heap.size + 1 < w3.heap.size := lt_below hb3 ltg; have hl3_1 := Nat.le_of_lt hz3_1; have hz3_2 : w.heap.size + 1 + 1 < w3.heap.size := lt_below hb3 ltg; have hl3_2 := Nat.le_of_lt hz3_2; have hz3_3 : w.heap.size + 1 + 1 + 1 < w3.heap.size := lt_below hb3 ltg; have hl3_3 := Nat.le_of_lt hz3_3; have hA3 := bnext (w0 := w) bgo hb3; have hs3 := hA3.size; clear hb3
      go_wp2
      exact bodyPost_ret (v := .tuple #[A4 J, .int .i64 0]) (by simp only [results, Tryz.results128]; go_simp) rfl ⟨rfl, bgo⟩
end
end
end Go.Proofs.YtgknbdehlmlipaaGreatDoor
