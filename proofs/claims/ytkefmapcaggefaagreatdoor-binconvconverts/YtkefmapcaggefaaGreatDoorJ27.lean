/-
  Texts that the proof leans on, joined: Cv, Tc, Ch.
-/
import Derived.Test.YtkefmapcaggefaaGreatDoorJ26
import Derived.Test.YtkefmapcaggefaaGreatDoorJ10
import Derived.Test.YtkefmapcaggefaaGreatDoorJ18
import Derived.Test.YtkefmapcaggefaaGreatDoorJ1
import Derived.Test.YtkefmapcaggefaaGreatDoorJ22
import Derived.Test.YtkefmapcaggefaaGreatDoorJ25
import Derived.Test.YtkefmapcaggefaaGreatDoorJ17
set_option linter.unusedVariables false
set_option linter.unusedSectionVars false
set_option linter.unusedSimpArgs false
set_option maxRecDepth 20000
namespace Go.Proofs.YtkefmapcaggefaaGreatDoor
open Go.RowKit
attribute [local irreducible] W4
theorem DV_zeroC (c : Int) (s g : Bool) (x : Int) : DV c s g x 0 = .agg #[.int .i64 c, .bool s, .bool g, .int .i64 x, .int .u64 0, .int .u64 0, .int .u64 0, .int .u64 0] := by
  unfold DV
  simp only [W4_zero]
section
variable (num ba wi pr ex le mo pa x : Int) (nm : ByteArray) (de s g : Bool) (k : Nat) (w : World) (hT : Tab w) (L : Int)
  (c46 : ∀ W, Calls Tryz.prog 28 #[A4 k] W fun r w' => r = .returned (.int .i64 L) ∧ Below W.heap.size W w')
include hT c46
set_option maxHeartbeats 2000000 in
theorem still_y (hL : ¬ pa < L) (R : Nat) (E : Int)
    (cP : ∀ W, Tab W → Calls Tryz.prog 10 #[.int .i64 num, DV 3 s false x k] W fun r w' => r = .returned (.tuple #[A4 R, .int .i64 E]) ∧ Below W.heap.size W w') :
    Calls Tryz.prog 11 #[.agg #[.int .i64 num, .string nm, .int .i64 ba, .int .i64 wi, .int .i64 pr, .int .i64 ex, .int .i64 le, .int .i64 mo, .int .i64 pa, .bool de], DV 3 s g x k] w fun r w' => r = .returned (.tuple #[A4 R, .int .i64 (if g then 1 else 0), .int .i64 E]) ∧ Below w.heap.size w w' := by
  cases g
  all_goals (
    go_enter Tryz.func11, Tryz.ntmps11
    go_wp2
    refine wp_whole (by kernel_rfl) (by kernel_rfl) fun hne hcell => ?_
    repeat go_big_quiet_step (fail)
    go_big_quiet_step ((go_at_call 28; exact calls_wd _ bk_next (c46 _)))
    repeat go_big_quiet_step (fail)
    refine wpQuiet_nil fun w1 hb1 => ?_
    obtain ⟨hc1, hf1⟩ := bcell hb1; have hz1_0 : w.heap.size < w1.heap.size := lt_below hb1 ltg; have hl1_0 := Nat.le_of_lt hz1_0; have hz1_1 : w.heap.size + 1 < w1.heap.size := lt_below hb1 ltg; have hl1_1 := Nat.le_of_lt hz1_1; have hz1_2 : w.heap.size + 1 + 1 < w1.heap.size := lt_below hb1 ltg; have hl1_2 := Nat.le_of_lt hz1_2; have hA1 := bnext (w0 := w) bgo hb1; have hs1 := hA1.size; clear hb1
    have hsm := cell_set_map
    go_wp2_with (go_at_call 10; refine (cP _ (hT.go bgo)).mono ?_; rintro r w2 ⟨rfl, hb2⟩; obtain ⟨hc2, hf2⟩ := bcell hb2; have hz2_0 : w.heap.size < w2.heap.size := lt_below hb2 ltg; have hl2_0 := Nat.le_of_lt hz2_0; have hz2_1 : w.heap.size + 1 < w2.heap.size := lt_below hb2 ltg; have hl2_1 := Nat.le_of_lt hz2_1; have hz2_2 : w.heap.size + 1 + 1 < w2.heap.size := lt_below hb2 ltg; have hl2_2 := Nat.le_of_lt hz2_2; have hA2 := bnext (w0 := w) bgo hb2; have hs2 := hA2.size; clear hb2)
    exact bodyPost_ret (by simp only [results, Tryz.results11]; go_simp) rfl ⟨rfl, bgo⟩)
set_option maxHeartbeats 2000000 in
theorem still_n (hL : pa < L) (R : Nat) (E : Int)
    (cP : ∀ W, Tab W → Calls Tryz.prog 10 #[.int .i64 num, .agg #[.int .i64 3, .bool s, .bool false, .int .i64 x, .int .u64 0, .int .u64 0, .int .u64 0, .int .u64 0]] W fun r w' => r = .returned (.tuple #[A4 R, .int .i64 E]) ∧ Below W.heap.size W w') :
    Calls Tryz.prog 11 #[.agg #[.int .i64 num, .string nm, .int .i64 ba, .int .i64 wi, .int .i64 pr, .int .i64 ex, .int .i64 le, .int .i64 mo, .int .i64 pa, .bool de], DV 3 s g x k] w fun r w' => r = .returned (.tuple #[A4 R, .int .i64 (if g then 1 else 0), .int .i64 E]) ∧ Below w.heap.size w w' := by
  cases g
  all_goals (
    go_enter Tryz.func11, Tryz.ntmps11
    go_wp2
    refine wp_whole (by kernel_rfl) (by kernel_rfl) fun hne hcell => ?_
    repeat go_big_quiet_step (fail)
    go_big_quiet_step ((go_at_call 28; exact calls_wd _ bk_next (c46 _)))
    repeat go_big_quiet_step (fail)
    refine wpQuiet_nil fun w1 hb1 => ?_
    obtain ⟨hc1, hf1⟩ := bcell hb1; have hz1_0 : w.heap.size < w1.heap.size := lt_below hb1 ltg; have hl1_0 := Nat.le_of_lt hz1_0; have hz1_1 : w.heap.size + 1 < w1.heap.size := lt_below hb1 ltg; have hl1_1 := Nat.le_of_lt hz1_1; have hz1_2 : w.heap.size + 1 + 1 < w1.heap.size := lt_below hb1 ltg; have hl1_2 := Nat.le_of_lt hz1_2; have hA1 := bnext (w0 := w) bgo hb1; have hs1 := hA1.size; clear hb1
    have hsm := cell_set_map
    go_wp2_with (go_at_call 10; refine (cP _ (hT.go bgo)).mono ?_; rintro r w2 ⟨rfl, hb2⟩; obtain ⟨hc2, hf2⟩ := bcell hb2; have hz2_0 : w.heap.size < w2.heap.size := lt_below hb2 ltg; have hl2_0 := Nat.le_of_lt hz2_0; have hz2_1 : w.heap.size + 1 < w2.heap.size := lt_below hb2 ltg; have hl2_1 := Nat.le_of_lt hz2_1; have hz2_2 : w.heap.size + 1 + 1 < w2.heap.size := lt_below hb2 ltg; have hl2_2 := Nat.le_of_lt hz2_2; have hA2 := bnext (w0 := w) bgo hb2; have hs2 := hA2.size; clear hb2)
    exact bodyPost_ret (by simp only [results, Tryz.results11]; go_simp) rfl ⟨rfl, bgo⟩)
end
theorem still_v {t : Int} (hb : binN t) (s g : Bool) {k : Nat} (hk : k < 2 ^ 256) (w : World) (hT : Tab w) :
    Calls Tryz.prog 11 #[.agg #[.int .i64 (numN t), .string (nameN t), .int .i64 (baseN t), .int .i64 (widthN t), .int .i64 (precN t), .int .i64 (expN t), .int .i64 (leastN t), .int .i64 (mostN t), .int .i64 (payN t), .bool (denseN t)], DV 3 s g 0 k] w fun r w' => r = .returned (.tuple #[A4 (cvV t 0 ⟨3, s, g, 0, k⟩), .int .i64 (if g then 1 else 0), .int .i64 0]) ∧ Below w.heap.size w w' := by
  obtain ⟨h1, h2, h3, h4, h5, h6⟩ := bin_fields hb
  have hn : numN t = t := if_pos h1
  have c46 := fun W => len4' k W
  have h2f := fN_two hb
  have hV : cvV t 0 ⟨3, s, g, 0, k⟩ = pkV t ⟨3, s, false, 0, if k < 2 ^ (fN t - 1) then k else 0⟩ := rfl
  have hle := len4_le (k := fN t - 1) hk
  by_cases hq : k < 2 ^ (fN t - 1)
  · have hE : pkE t ⟨3, s, false, 0, k⟩ = 0 := by
      unfold pkE
      rw [if_pos hb]
      exact if_pos (Or.inr (Or.inr ⟨rfl, rfl, hq, Or.inr rfl⟩))
    have cP := fun W hT => pack_any t ⟨3, s, false, 0, k⟩ W hT hk
    rw [hE] at cP
    rw [hV, if_pos hq, hn]
    exact still_y _ _ _ _ _ _ _ _ 0 _ _ s g k w hT _ c46 (by have := hle.2 hq; omega) _ _ cP
  · have hE : pkE t ⟨3, s, false, 0, 0⟩ = 0 := by
      unfold pkE
      rw [if_pos hb]
      exact if_pos (Or.inr (Or.inr ⟨rfl, rfl, Nat.two_pow_pos _, Or.inr rfl⟩))
    have cP := fun W hT => pack_any t ⟨3, s, false, 0, 0⟩ W hT (show 0 < 2 ^ 256 by decide)
    rw [hE, show (Dat.v ⟨3, s, false, 0, 0⟩) = _ from DV_zeroC 3 s false 0] at cP
    rw [hV, if_neg hq, hn]
    exact still_n _ _ _ _ _ _ _ _ 0 _ _ s g k w hT _ c46 (by
      have : ¬ lenL (W4 k) 4 ≤ ((fN t - 1 : Nat) : Int) := fun h => hq (hle.1 h)
      omega) _ _ cP
section
variable (m t d c x : Int) (s g : Bool) (k B : Nat) (num ba wi pr ex le mo pa : Int) (nm : ByteArray) (de : Bool) (w : World) (hT : Tab w)
include hT
set_option maxHeartbeats 2000000 in
theorem conv_e1
    (c1 : ∀ W, Tab W → Calls Tryz.prog 7 #[.int .i64 m, A4 B] W fun r w' => r = .returned (.tuple #[DV c s g x k, .int .i64 1]) ∧ Below W.heap.size W w') :
    Calls Tryz.prog 5 #[.int .i64 m, .int .i64 t, .int .i64 d, A4 B] w fun r w' => r = .returned (.tuple #[A4 0, .int .i64 0, .int .i64 1]) ∧ Below w.heap.size w w' := by
  rw [Z4_eq]
  have hsm := cell_set_map
  go_enter Tryz.func5, Tryz.ntmps5
  go_wp2_with (first
    | (go_at_call 7; refine (c1 _ (hT.go bgo)).mono ?_; rintro r w1 ⟨rfl, hb1⟩; obtain ⟨hc1, hf1⟩ := bcell hb1; have hz1_0 : w.heap.size < w1.heap.size := lt_below hb1 ltg; have hl1_0 := Nat.le_of_lt hz1_0; have hz1_1 : w.heap.size + 1 < w1.heap.size := lt_below hb1 ltg; have hl1_1 := Nat.le_of_lt hz1_1; have hA1 := bnext (w0 := w) bgo hb1; have hs1 := hA1.size; clear hb1))
  exact bodyPost_ret (by simp only [results, Tryz.results5]; go_simp) rfl ⟨rfl, bgo⟩
set_option maxHeartbeats 2000000 in
theorem conv_e2
    (c1 : ∀ W, Tab W → Calls Tryz.prog 7 #[.int .i64 m, A4 B] W fun r w' => r = .returned (.tuple #[DV c s g x k, .int .i64 0]) ∧ Below W.heap.size W w')
    (c2 : ∀ W, Tab W → Calls Tryz.prog 8 #[.int .i64 t] W fun r w' => r = .returned (.tuple #[.agg #[.int .i64 num, .string nm, .int .i64 ba, .int .i64 wi, .int .i64 pr, .int .i64 ex, .int .i64 le, .int .i64 mo, .int .i64 pa, .bool de], .int .i64 1]) ∧ Below W.heap.size W w') :
    Calls Tryz.prog 5 #[.int .i64 m, .int .i64 t, .int .i64 d, A4 B] w fun r w' => r = .returned (.tuple #[A4 0, .int .i64 0, .int .i64 1]) ∧ Below w.heap.size w w' := by
  rw [Z4_eq]
  have hsm := cell_set_map
  go_enter Tryz.func5, Tryz.ntmps5
  go_wp2_with (first
    | (go_at_call 7; refine (c1 _ (hT.go bgo)).mono ?_; rintro r w1 ⟨rfl, hb1⟩; obtain ⟨hc1, hf1⟩ := bcell hb1; have hz1_0 : w.heap.size < w1.heap.size := lt_below hb1 ltg; have hl1_0 := Nat.le_of_lt hz1_0; have hz1_1 : w.heap.size + 1 < w1.heap.size := lt_below hb1 ltg; have hl1_1 := Nat.le_of_lt hz1_1; have hA1 := bnext (w0 := w) bgo hb1; have hs1 := hA1.size; clear hb1)
    | (go_at_call 8; refine (c2 _ (hT.go bgo)).mono ?_; rintro r w2 ⟨rfl, hb2⟩; obtain ⟨hc2, hf2⟩ := bcell hb2; have hz2_0 : w.heap.size < w2.heap.size := lt_below hb2 ltg; have hl2_0 := Nat.le_of_lt hz2_0; have hz2_1 : w.heap.size + 1 < w2.heap.size := lt_below hb2 ltg; have hl2_1 := Nat.le_of_lt hz2_1; have hz2_2 : w1.heap.size < w2.heap.size := lt_below hb2 ltg; have hl2_2 := Nat.le_of_lt hz2_2; have hA2 := bnext (w0 := w) bgo hb2; have hs2 := hA2.size; clear hb2))
  exact bodyPost_ret (by simp only [results, Tryz.results5]; go_simp) rfl ⟨rfl, bgo⟩
set_option maxHeartbeats 2000000 in
theorem conv_e3 (hba : ba = 10)
    (c1 : ∀ W, Tab W → Calls Tryz.prog 7 #[.int .i64 m, A4 B] W fun r w' => r = .returned (.tuple #[DV c s g x k, .int .i64 0]) ∧ Below W.heap.size W w')
    (c2 : ∀ W, Tab W → Calls Tryz.prog 8 #[.int .i64 t] W fun r w' => r = .returned (.tuple #[.agg #[.int .i64 num, .string nm, .int .i64 ba, .int .i64 wi, .int .i64 pr, .int .i64 ex, .int .i64 le, .int .i64 mo, .int .i64 pa, .bool de], .int .i64 0]) ∧ Below W.heap.size W w') :
    Calls Tryz.prog 5 #[.int .i64 m, .int .i64 t, .int .i64 d, A4 B] w fun r w' => r = .returned (.tuple #[A4 0, .int .i64 0, .int .i64 1]) ∧ Below w.heap.size w w' := by
  rw [Z4_eq]
  subst hba
  have hsm := cell_set_map
  go_enter Tryz.func5, Tryz.ntmps5
  go_wp2_with (first
    | (go_at_call 7; refine (c1 _ (hT.go bgo)).mono ?_; rintro r w1 ⟨rfl, hb1⟩; obtain ⟨hc1, hf1⟩ := bcell hb1; have hz1_0 : w.heap.size < w1.heap.size := lt_below hb1 ltg; have hl1_0 := Nat.le_of_lt hz1_0; have hz1_1 : w.heap.size + 1 < w1.heap.size := lt_below hb1 ltg; have hl1_1 := Nat.le_of_lt hz1_1; have hA1 := bnext (w0 := w) bgo hb1; have hs1 := hA1.size; clear hb1)
    | (go_at_call 8; refine (c2 _ (hT.go bgo)).mono ?_; rintro r w2 ⟨rfl, hb2⟩; obtain ⟨hc2, hf2⟩ := bcell hb2; have hz2_0 : w.heap.size < w2.heap.size := lt_below hb2 ltg; have hl2_0 := Nat.le_of_lt hz2_0; have hz2_1 : w.heap.size + 1 < w2.heap.size := lt_below hb2 ltg; have hl2_1 := Nat.le_of_lt hz2_1; have hz2_2 : w1.heap.size < w2.heap.size := lt_below hb2 ltg; have hl2_2 := Nat.le_of_lt hz2_2; have hA2 := bnext (w0 := w) bgo hb2; have hs2 := hA2.size; clear hb2))
  exact bodyPost_ret (by simp only [results, Tryz.results5]; go_simp) rfl ⟨rfl, bgo⟩
set_option maxHeartbeats 2000000 in
theorem conv_e4 (hba : ba = 2)
    (c1 : ∀ W, Tab W → Calls Tryz.prog 7 #[.int .i64 m, A4 B] W fun r w' => r = .returned (.tuple #[DV c s g x k, .int .i64 0]) ∧ Below W.heap.size W w')
    (c2 : ∀ W, Tab W → Calls Tryz.prog 8 #[.int .i64 t] W fun r w' => r = .returned (.tuple #[.agg #[.int .i64 num, .string nm, .int .i64 ba, .int .i64 wi, .int .i64 pr, .int .i64 ex, .int .i64 le, .int .i64 mo, .int .i64 pa, .bool de], .int .i64 0]) ∧ Below W.heap.size W w')
    (c3 : ∀ W, Calls Tryz.prog 9 #[.int .i64 d] W fun r w' => r = .returned (.bool false) ∧ W = w') :
    Calls Tryz.prog 5 #[.int .i64 m, .int .i64 t, .int .i64 d, A4 B] w fun r w' => r = .returned (.tuple #[A4 0, .int .i64 0, .int .i64 1]) ∧ Below w.heap.size w w' := by
  rw [Z4_eq]
  subst hba
  have hsm := cell_set_map
  go_enter Tryz.func5, Tryz.ntmps5
  go_wp2_with (first
    | (go_at_call 7; refine (c1 _ (hT.go bgo)).mono ?_; rintro r w1 ⟨rfl, hb1⟩; obtain ⟨hc1, hf1⟩ := bcell hb1; have hz1_0 : w.heap.size < w1.heap.size := lt_below hb1 ltg; have hl1_0 := Nat.le_of_lt hz1_0; have hz1_1 : w.heap.size + 1 < w1.heap.size := lt_below hb1 ltg; have hl1_1 := Nat.le_of_lt hz1_1; have hA1 := bnext (w0 := w) bgo hb1; have hs1 := hA1.size; clear hb1)
    | (go_at_call 8; refine (c2 _ (hT.go bgo)).mono ?_; rintro r w2 ⟨rfl, hb2⟩; obtain ⟨hc2, hf2⟩ := bcell hb2; have hz2_0 : w.heap.size < w2.heap.size := lt_below hb2 ltg; have hl2_0 := Nat.le_of_lt hz2_0; have hz2_1 : w.heap.size + 1 < w2.heap.size := lt_below hb2 ltg; have hl2_1 := Nat.le_of_lt hz2_1; have hz2_2 : w1.heap.size < w2.heap.size := lt_below hb2 ltg; have hl2_2 := Nat.le_of_lt hz2_2; have hA2 := bnext (w0 := w) bgo hb2; have hs2 := hA2.size; clear hb2)
    | (go_at_call 9; refine (c3 _).mono ?_; rintro r w3 ⟨rfl, rfl⟩))
  exact bodyPost_ret (by simp only [results, Tryz.results5]; go_simp) rfl ⟨rfl, bgo⟩
set_option maxHeartbeats 2000000 in
theorem conv_2 (hba : ba = 2) (hc : c = 2) (R : Nat) (E : Int)
    (c1 : ∀ W, Tab W → Calls Tryz.prog 7 #[.int .i64 m, A4 B] W fun r w' => r = .returned (.tuple #[DV c s g x k, .int .i64 0]) ∧ Below W.heap.size W w')
    (c2 : ∀ W, Tab W → Calls Tryz.prog 8 #[.int .i64 t] W fun r w' => r = .returned (.tuple #[.agg #[.int .i64 num, .string nm, .int .i64 ba, .int .i64 wi, .int .i64 pr, .int .i64 ex, .int .i64 le, .int .i64 mo, .int .i64 pa, .bool de], .int .i64 0]) ∧ Below W.heap.size W w')
    (c3 : ∀ W, Calls Tryz.prog 9 #[.int .i64 d] W fun r w' => r = .returned (.bool true) ∧ W = w')
    (cP : ∀ W, Tab W → Calls Tryz.prog 10 #[.int .i64 t, DV 2 s g x k] W fun r w' => r = .returned (.tuple #[A4 R, .int .i64 E]) ∧ Below W.heap.size W w') :
    Calls Tryz.prog 5 #[.int .i64 m, .int .i64 t, .int .i64 d, A4 B] w fun r w' => r = .returned (.tuple #[A4 R, .int .i64 0, .int .i64 E]) ∧ Below w.heap.size w w' := by
  subst hba hc
  have hsm := cell_set_map
  go_enter Tryz.func5, Tryz.ntmps5
  go_wp2_with (first
    | (go_at_call 7; refine (c1 _ (hT.go bgo)).mono ?_; rintro r w1 ⟨rfl, hb1⟩; obtain ⟨hc1, hf1⟩ := bcell hb1; have hz1_0 : w.heap.size < w1.heap.size := lt_below hb1 ltg; have hl1_0 := Nat.le_of_lt hz1_0; have hz1_1 : w.heap.size + 1 < w1.heap.size := lt_below hb1 ltg; have hl1_1 := Nat.le_of_lt hz1_1; have hA1 := bnext (w0 := w) bgo hb1; have hs1 := hA1.size; clear hb1)
    | (go_at_call 8; refine (c2 _ (hT.go bgo)).mono ?_; rintro r w2 ⟨rfl, hb2⟩; obtain ⟨hc2, hf2⟩ := bcell hb2; have hz2_0 : w.heap.size < w2.heap.size := lt_below hb2 ltg; have hl2_0 := Nat.le_of_lt hz2_0; have hz2_1 : w.heap.size + 1 < w2.heap.size := lt_below hb2 ltg; have hl2_1 := Nat.le_of_lt hz2_1; have hz2_2 : w1.heap.size < w2.heap.size := lt_below hb2 ltg; have hl2_2 := Nat.le_of_lt hz2_2; have hA2 := bnext (w0 := w) bgo hb2; have hs2 := hA2.size; clear hb2)
    | (go_at_call 9; refine (c3 _).mono ?_; rintro r w3 ⟨rfl, rfl⟩)
    | (go_at_call 10; refine (cP _ (hT.go bgo)).mono ?_; rintro r w4 ⟨rfl, hb4⟩; obtain ⟨hc4, hf4⟩ := bcell hb4; have hz4_0 : w.heap.size < w4.heap.size := lt_below hb4 ltg; have hl4_0 := Nat.le_of_lt hz4_0; have hz4_1 : w.heap.size + 1 < w4.heap.size := lt_below hb4 ltg; have hl4_1 := Nat.le_of_lt hz4_1; have hz4_2 : w1.heap.size < w4.heap.size := lt_below hb4 ltg; have hl4_2 := Nat.le_of_lt hz4_2; have hz4_3 : w2.heap.size < w4.heap.size := lt_below hb4 ltg; have hl4_3 := Nat.le_of_lt hz4_3; have hA4 := bnext (w0 := w) bgo hb4; have hs4 := hA4.size; clear hb4))
  exact bodyPost_ret (by simp only [results, Tryz.results5]; go_simp) rfl ⟨rfl, bgo⟩
set_option maxHeartbeats 2000000 in
theorem conv_3 (hba : ba = 2) (hc : c = 3) (R : Nat) (F E : Int)
    (c1 : ∀ W, Tab W → Calls Tryz.prog 7 #[.int .i64 m, A4 B] W fun r w' => r = .returned (.tuple #[DV c s g x k, .int .i64 0]) ∧ Below W.heap.size W w')
    (c2 : ∀ W, Tab W → Calls Tryz.prog 8 #[.int .i64 t] W fun r w' => r = .returned (.tuple #[.agg #[.int .i64 num, .string nm, .int .i64 ba, .int .i64 wi, .int .i64 pr, .int .i64 ex, .int .i64 le, .int .i64 mo, .int .i64 pa, .bool de], .int .i64 0]) ∧ Below W.heap.size W w')
    (c3 : ∀ W, Calls Tryz.prog 9 #[.int .i64 d] W fun r w' => r = .returned (.bool true) ∧ W = w')
    (cS : ∀ W, Tab W → Calls Tryz.prog 11 #[.agg #[.int .i64 num, .string nm, .int .i64 ba, .int .i64 wi, .int .i64 pr, .int .i64 ex, .int .i64 le, .int .i64 mo, .int .i64 pa, .bool de], DV 3 s g x k] W fun r w' => r = .returned (.tuple #[A4 R, .int .i64 F, .int .i64 E]) ∧ Below W.heap.size W w') :
    Calls Tryz.prog 5 #[.int .i64 m, .int .i64 t, .int .i64 d, A4 B] w fun r w' => r = .returned (.tuple #[A4 R, .int .i64 F, .int .i64 E]) ∧ Below w.heap.size w w' := by
  subst hc
  subst hba
  have hsm := cell_set_map
  go_enter Tryz.func5, Tryz.ntmps5
  go_wp2_with (first
    | (go_at_call 7; refine (c1 _ (hT.go bgo)).mono ?_; rintro r w1 ⟨rfl, hb1⟩; obtain ⟨hc1, hf1⟩ := bcell hb1; have hz1_0 : w.heap.size < w1.heap.size := lt_below hb1 ltg; have hl1_0 := Nat.le_of_lt hz1_0; have hz1_1 : w.heap.size + 1 < w1.heap.size := lt_below hb1 ltg; have hl1_1 := Nat.le_of_lt hz1_1; have hA1 := bnext (w0 := w) bgo hb1; have hs1 := hA1.size; clear hb1)
    | (go_at_call 8; refine (c2 _ (hT.go bgo)).mono ?_; rintro r w2 ⟨rfl, hb2⟩; obtain ⟨hc2, hf2⟩ := bcell hb2; have hz2_0 : w.heap.size < w2.heap.size := lt_below hb2 ltg; have hl2_0 := Nat.le_of_lt hz2_0; have hz2_1 : w.heap.size + 1 < w2.heap.size := lt_below hb2 ltg; have hl2_1 := Nat.le_of_lt hz2_1; have hz2_2 : w1.heap.size < w2.heap.size := lt_below hb2 ltg; have hl2_2 := Nat.le_of_lt hz2_2; have hA2 := bnext (w0 := w) bgo hb2; have hs2 := hA2.size; clear hb2)
    | (go_at_call 9; refine (c3 _).mono ?_; rintro r w3 ⟨rfl, rfl⟩)
    | (go_at_call 11; refine (cS _ (hT.go bgo)).mono ?_; rintro r w4 ⟨rfl, hb4⟩; obtain ⟨hc4, hf4⟩ := bcell hb4; have hz4_0 : w.heap.size < w4.heap.size := lt_below hb4 ltg; have hl4_0 := Nat.le_of_lt hz4_0; have hz4_1 : w.heap.size + 1 < w4.heap.size := lt_below hb4 ltg; have hl4_1 := Nat.le_of_lt hz4_1; have hz4_2 : w1.heap.size < w4.heap.size := lt_below hb4 ltg; have hl4_2 := Nat.le_of_lt hz4_2; have hz4_3 : w2.heap.size < w4.heap.size := lt_below hb4 ltg; have hl4_3 := Nat.le_of_lt hz4_3; have hA4 := bnext (w0 := w) bgo hb4; have hs4 := hA4.size; clear hb4))
  exact bodyPost_ret (by simp only [results, Tryz.results5]; go_simp) rfl ⟨rfl, bgo⟩
set_option maxHeartbeats 2000000 in
theorem conv_1 (hba : ba = 2) (hc : c = 1) (R : Nat) (F E : Int)
    (c1 : ∀ W, Tab W → Calls Tryz.prog 7 #[.int .i64 m, A4 B] W fun r w' => r = .returned (.tuple #[DV c s g x k, .int .i64 0]) ∧ Below W.heap.size W w')
    (c2 : ∀ W, Tab W → Calls Tryz.prog 8 #[.int .i64 t] W fun r w' => r = .returned (.tuple #[.agg #[.int .i64 num, .string nm, .int .i64 ba, .int .i64 wi, .int .i64 pr, .int .i64 ex, .int .i64 le, .int .i64 mo, .int .i64 pa, .bool de], .int .i64 0]) ∧ Below W.heap.size W w')
    (c3 : ∀ W, Calls Tryz.prog 9 #[.int .i64 d] W fun r w' => r = .returned (.bool true) ∧ W = w')
    (cR : ∀ W, Tab W → Calls Tryz.prog 12 #[.int .i64 t, .int .i64 d, .bool s, A4 k, .int .i64 x] W fun r w' => r = .returned (.tuple #[A4 R, .int .i64 F, .int .i64 E]) ∧ Below W.heap.size W w') :
    Calls Tryz.prog 5 #[.int .i64 m, .int .i64 t, .int .i64 d, A4 B] w fun r w' => r = .returned (.tuple #[A4 R, .int .i64 F, .int .i64 E]) ∧ Below w.heap.size w w' := by
  subst hba hc
  have hsm := cell_set_map
  go_enter Tryz.func5, Tryz.ntmps5
  go_wp2_with (first
    | (go_at_call 7; refine (c1 _ (hT.go bgo)).mono ?_; rintro r w1 ⟨rfl, hb1⟩; obtain ⟨hc1, hf1⟩ := bcell hb1; have hz1_0 : w.heap.size < w1.heap.size := lt_below hb1 ltg; have hl1_0 := Nat.le_of_lt hz1_0; have hz1_1 : w.heap.size + 1 < w1.heap.size := lt_below hb1 ltg; have hl1_1 := Nat.le_of_lt hz1_1; have hA1 := bnext (w0 := w) bgo hb1; have hs1 := hA1.size; clear hb1)
    | (go_at_call 8; refine (c2 _ (hT.go bgo)).mono ?_; rintro r w2 ⟨rfl, hb2⟩; obtain ⟨hc2, hf2⟩ := bcell hb2; have hz2_0 : w.heap.size < w2.heap.size := lt_below hb2 ltg; have hl2_0 := Nat.le_of_lt hz2_0; have hz2_1 : w.heap.size + 1 < w2.heap.size := lt_below hb2 ltg; have hl2_1 := Nat.le_of_lt hz2_1; have hz2_2 : w1.heap.size < w2.heap.size := lt_below hb2 ltg; have hl2_2 := Nat.le_of_lt hz2_2; have hA2 := bnext (w0 := w) bgo hb2; have hs2 := hA2.size; clear hb2)
    | (go_at_call 9; refine (c3 _).mono ?_; rintro r w3 ⟨rfl, rfl⟩)
    | (go_at_call 12; refine (cR _ (hT.go bgo)).mono ?_; rintro r w4 ⟨rfl, hb4⟩; obtain ⟨hc4, hf4⟩ := bcell hb4; have hz4_0 : w.heap.size < w4.heap.size := lt_below hb4 ltg; have hl4_0 := Nat.le_of_lt hz4_0; have hz4_1 : w.heap.size + 1 < w4.heap.size := lt_below hb4 ltg; have hl4_1 := Nat.le_of_lt hz4_1; have hz4_2 : w1.heap.size < w4.heap.size := lt_below hb4 ltg; have hl4_2 := Nat.le_of_lt hz4_2; have hz4_3 : w2.heap.size < w4.heap.size := lt_below hb4 ltg; have hl4_3 := Nat.le_of_lt hz4_3; have hA4 := bnext (w0 := w) bgo hb4; have hs4 := hA4.size; clear hb4))
  exact bodyPost_ret (by simp only [results, Tryz.results5]; go_simp) rfl ⟨rfl, bgo⟩
end
theorem conv_v (m t d : Int) (B : Nat) (w : World) (hT : Tab w) (hB : B < 2 ^ 256) :
    Calls Tryz.prog 5 #[.int .i64 m, .int .i64 t, .int .i64 d, A4 B] w fun r w' => r = .returned (.tuple #[A4 (cnV m t d B), .int .i64 (cnF m t d B), .int .i64 (cnE m t d B)]) ∧ Below w.heap.size w w' := by
  have c1 : ∀ W, Tab W → Calls Tryz.prog 7 #[.int .i64 m, A4 B] W fun r w' => r = .returned (.tuple #[DV (unD m B).c (unD m B).s (unD m B).g (unD m B).x (unD m B).k, .int .i64 (unE m B)]) ∧ Below W.heap.size W w' := fun W h => unpack_any m B W h hB
  have c2 := fun W h => ofv_any t W h
  have c3 := fun W => known_any d W
  unfold cnV cnF cnE
  by_cases h1 : goodN m B
  · rw [show unE m B = 0 from if_pos h1] at c1
    by_cases h2 : binN t
    · obtain ⟨f1, f2, f3, f4, f5, f6⟩ := bin_fields h2
      have cS := fun s g k hk W hT => still_v h2 s g (k := k) hk W hT
      rw [show infoE t = 0 from if_pos f1] at c2
      by_cases h3 : knB d
      · rw [decide_eq_true h3] at c3
        have hc : cnG m t d B := ⟨h1, h2, h3⟩
        rw [if_pos hc, if_pos hc, if_pos hc]
        have hi := und_is h1
        have hk := unD_k m B
        generalize unD m B = D at *
        obtain ⟨c, s, g, x, k⟩ := D
        dsimp only at c1 hk
        rcases hi with ⟨i1, i2, i3, i4, i5, i6⟩ | ⟨i1, i2, i3, i4⟩ | ⟨i1, i2, i3, i4⟩
        · dsimp only at i1 i2
          subst i1
          rw [show cvV t d ⟨1, s, g, x, k⟩ = rdV t d s k 1 x from rfl, show cvF t d ⟨1, s, g, x, k⟩ = rdF t d s k 1 x from rfl]
          exact conv_1 m t d 1 x s g k B _ _ _ _ _ _ _ _ _ _ w hT f2 rfl _ _ _ c1 c2 c3 (fun W h => scaled_good t d x s k W h h2 h3 hk)
        · dsimp only at i1 i2 i3 i4
          subst i1 i2 i3 i4
          have hE : pkE t ⟨2, s, false, 0, 0⟩ = 0 := by
            unfold pkE
            rw [if_pos h2]
            exact if_pos (Or.inr (Or.inl ⟨rfl, rfl, rfl, rfl⟩))
          have cP := fun W h => pack_any t ⟨2, s, false, 0, 0⟩ W h (show 0 < 2 ^ 256 by decide)
          rw [hE] at cP
          rw [show cvV t d ⟨2, s, false, 0, 0⟩ = pkV t ⟨2, s, false, 0, 0⟩ from rfl, show cvF t d ⟨2, s, false, 0, 0⟩ = 0 from rfl]
          exact conv_2 m t d 2 0 s false 0 B _ _ _ _ _ _ _ _ _ _ w hT f2 rfl _ _ c1 c2 c3 cP
        · dsimp only at i1 i2
          subst i1 i2
          rw [show cvV t d ⟨3, s, g, 0, k⟩ = cvV t 0 ⟨3, s, g, 0, k⟩ from rfl, show cvF t d ⟨3, s, g, 0, k⟩ = (if g then 1 else 0) from rfl]
          exact conv_3 m t d 3 0 s g k B _ _ _ _ _ _ _ _ _ _ w hT f2 rfl _ _ _ c1 c2 c3 (fun W h => cS s g k hk W h)
      · rw [decide_eq_false h3] at c3
        have hc : ¬ cnG m t d B := fun q => h3 q.2.2
        rw [if_neg hc, if_neg hc, if_neg hc]
        exact conv_e4 m t d _ _ _ _ _ B _ _ _ _ _ _ _ _ _ _ w hT f2 c1 c2 c3
    · have hc : ¬ cnG m t d B := fun q => h2 q.2.1
      rw [if_neg hc, if_neg hc, if_neg hc]
      rcases not_bin h2 with ⟨h4, h5⟩ | h4
      · rw [show infoE t = 0 from if_pos h4] at c2
        exact conv_e3 m t d _ _ _ _ _ B _ _ _ _ _ _ _ _ _ _ w hT h5 c1 c2
      · rw [show infoE t = 1 from if_neg h4] at c2
        exact conv_e2 m t d _ _ _ _ _ B _ _ _ _ _ _ _ _ _ _ w hT c1 c2
  · rw [show unE m B = 1 from if_neg h1] at c1
    have hc : ¬ cnG m t d B := fun q => h1 q.1
    rw [if_neg hc, if_neg hc, if_neg hc]
    exact conv_e1 m t d _ _ _ _ _ B w hT c1
end Go.Proofs.YtkefmapcaggefaaGreatDoor

namespace Go.Proofs.YtkefmapcaggefaaGreatDoor
open Go.RowKit

theorem A4_self (B : Nat) (w : World) : Sem.run Tryz.prog (Op.equalIn 10000 24 (A4 B) (A4 B)) w = .ok true w := by
  have := eq24 (W4 B 0) (W4 B 1) (W4 B 2) (W4 B 3) (W4 B 0) (W4 B 1) (W4 B 2) (W4 B 3) w
  rw [decide_eq_true ⟨rfl, rfl, rfl, rfl⟩] at this
  exact this
attribute [local irreducible] W4 Nt
end Go.Proofs.YtkefmapcaggefaaGreatDoor

namespace Go.Proofs.YtkefmapcaggefaaGreatDoor
open Go.RowKit
theorem A4_wide : A4 4591870180066957722 = .agg #[.int .u64 4591870180066957722, .int .u64 0, .int .u64 0, .int .u64 0] := by unfold A4; rw [show W4 4591870180066957722 0 = 4591870180066957722 by decide, show W4 4591870180066957722 1 = 0 by decide, show W4 4591870180066957722 2 = 0 by decide, show W4 4591870180066957722 3 = 0 by decide]
theorem A4_narrow : A4 1036831949 = .agg #[.int .u64 1036831949, .int .u64 0, .int .u64 0, .int .u64 0] := by unfold A4; rw [show W4 1036831949 0 = 1036831949 by decide, show W4 1036831949 1 = 0 by decide, show W4 1036831949 2 = 0 by decide, show W4 1036831949 3 = 0 by decide]
attribute [local irreducible] W4 mo
theorem wide_ld : ld 7205759403792794 1 = 52 := by
  have e1 : bl 7205759403792794 = 53 := bl_eq (by decide) (by decide)
  have e3 : bl 1 = 1 := bl_eq (by decide) (by decide)
  unfold ld
  rw [e1, e3]
  decide
theorem wide_X : rX 3 7205759403792794 1 (-56) = -56 := by unfold rX; rw [wide_ld]; decide
theorem wide_Q : rQ 3 7205759403792794 1 (-56) = -27 := by unfold rQ; rw [wide_ld, wide_X]; decide
theorem wide_C : rC 3 0 false 7205759403792794 1 (-56) = 13421773 := by unfold rC; rw [wide_X, wide_Q]; decide
theorem wide_bl : bl 13421773 = 24 := bl_eq (by decide) (by decide)
theorem wide_V : rdV 3 0 false 7205759403792794 1 (-56) = 1036831949 := by
  unfold rdV rQ' rC'
  rw [wide_C, wide_bl, wide_Q]
  decide
theorem wide_F : rdF 3 0 false 7205759403792794 1 (-56) = 8 := by
  unfold rdF rQ'
  rw [wide_C, wide_bl, wide_Q, wide_X, wide_ld]
  decide
theorem tenth12 : cnV 4 3 0 4591870180066957722 = 1036831949 ∧ cnF 4 3 0 4591870180066957722 = 8 ∧ cnE 4 3 0 4591870180066957722 = 0 := by
  have hg : cnG 4 3 0 4591870180066957722 := ⟨by decide, by decide, by decide⟩
  unfold cnV cnF cnE
  rw [if_pos hg, if_pos hg, if_pos hg]
  have hu : unD 4 4591870180066957722 = ⟨1, false, false, -56, 7205759403792794⟩ := by kernel_rfl
  rw [hu]
  exact ⟨wide_V, wide_F, rfl⟩
set_option maxHeartbeats 1000000 in
theorem awake12 (w : World) (hT : Tab w) : Calls Tryz.prog 4 #[] w fun r w' => r = .returned (.bool true) ∧ Below w.heap.size w w' := by
  have c := fun W (h : Tab W) => conv_v 4 3 0 4591870180066957722 W h (by decide)
  rw [tenth12.1, tenth12.2.1, tenth12.2.2, A4_wide, A4_narrow] at c
  have hQ : ∀ W, Sem.run Tryz.prog (Op.equalIn 10000 24 (.agg #[.int .u64 1036831949, .int .u64 0, .int .u64 0, .int .u64 0]) (.agg #[.int .u64 1036831949, .int .u64 0, .int .u64 0, .int .u64 0])) W = .ok true W := fun W => by
    have := A4_self 1036831949 W
    rw [A4_narrow] at this
    exact this
  go_enter Tryz.func4, Tryz.ntmps4
  go_wp2_with (go_at_call 5; refine (c _ (hT.go bgo)).mono ?_; rintro r w1 ⟨rfl, hb1⟩; have hs1 := hb1.size)
  go_ret
  exact ⟨rfl, bgo⟩
end Go.Proofs.YtkefmapcaggefaaGreatDoor
