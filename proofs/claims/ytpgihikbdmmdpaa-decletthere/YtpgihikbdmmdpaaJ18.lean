/-
  Texts that the proof leans on, joined: Wa, Dn.
-/
import Derived.Test.YtpgihikbdmmdpaaJ5
import Derived.Test.YtpgihikbdmmdpaaJ14
import Derived.Test.YtpgihikbdmmdpaaJ8
import Derived.Test.YtpgihikbdmmdpaaJ9
import Derived.Test.YtpgihikbdmmdpaaJ17
import Derived.Test.YtpgihikbdmmdpaaJ16
import Derived.Deep.Cut
import Derived.Deep.CutRange
import Derived.Laws.IdiomCopy
import Derived.Test.YtpgihikbdmmdpaaJ1
set_option linter.unusedVariables false
set_option linter.unusedSectionVars false
set_option linter.unusedSimpArgs false
set_option maxRecDepth 20000
namespace Go.Proofs.Ytpgihikbdmmdpaa
open Go.RowKit


theorem rcmp_nv {K K' A B : Nat} {v v' : Value} {w : World} (hK : K < 1000000) (hK' : K' < 1000000) (h : NV K A v w) (h' : NV K' B v' w) :
    Calls Try.prog 19 #[v, v'] w fun e w' => e = .returned (.int .i64 (sgn (A : Int) B)) ∧ w = w' := by
  obtain ⟨g, k, c, z, rfl, hk, hN, hz⟩ := h
  obtain ⟨g2, k2, c2, z2, rfl, hk2, hN2, hz2⟩ := h'
  have := rcmp_any _ _ k c k2 c2 z z2 w (by omega) (by omega) hN hN2
  rw [hz, hz2] at this
  exact this
end Go.Proofs.Ytpgihikbdmmdpaa

namespace Go.Proofs.Ytpgihikbdmmdpaa
open Go.RowKit
attribute [local irreducible] W4 NT NV
section
variable (C : Nat) (n : Int) (w : World)
  (c8 : ∀ W, Calls Try.prog 8 #[] W fun r w' => r = .returned (.bool true) ∧ Below W.heap.size W w')
include c8
set_option maxHeartbeats 1000000 in
theorem there_a (hn : n < 0)
    (c15 : ∀ W, Calls Try.prog 15 #[A4 C, .int .i64 n] W fun r w' => r = .returned (.tuple #[Z4, .int .i64 1]) ∧ Below W.heap.size W w') :
    Calls Try.prog 7 #[A4 C, .int .i64 n] w fun r w' => r = .returned (.bool true) ∧ Below w.heap.size w w' := by
  have hZ := fun W => A4_same13 0 W
  rw [Z4_eq] at hZ
  go_enter Try.func7, Try.ntmps7
  go_wp2_with (first
    | (go_at_call 8; refine (c8 _).mono ?_; rintro r w1 ⟨rfl, hb1⟩; obtain ⟨hc1, hf1⟩ := bcell hb1; have hz1_0 : w.heap.size < w1.heap.size := lt_below hb1 ltg; have hl1_0 := Nat.le_of_lt hz1_0; have hA1 := bnext (w0 := w) bgo hb1; have hs1 := hA1.size; clear hb1)
    | (go_at_call 15; refine (c15 _).mono ?_; rintro r w2 ⟨rfl, hb2⟩; obtain ⟨hc2, hf2⟩ := bcell hb2; have hz2_0 : w.heap.size < w2.heap.size := lt_below hb2 ltg; have hl2_0 := Nat.le_of_lt hz2_0; have hA2 := bnext (w0 := w) bgo hb2; have hs2 := hA2.size; clear hb2))
  refine wp_whole (by kernel_rfl) (by kernel_rfl) fun hne hcell => ?_
  repeat go_big_quiet_step (fail)
  refine wpQuiet_nil fun w3 hb3 => ?_
  obtain ⟨hc3, hf3⟩ := bcell hb3; have hz3_0 : w.heap.size < w3.heap.size := lt_below hb3 ltg; have hl3_0 := Nat.le_of_lt hz3_0; have hz3_1 : w2.heap.size < w3.heap.size := lt_below hb3 ltg; have hl3_1 := Nat.le_of_lt hz3_1; have hA3 := bnext (w0 := w) bgo hb3; have hs3 := hA3.size; clear hb3
  go_wp2
  go_ret
  exact ⟨by first | rfl | simp, bgo⟩
set_option maxHeartbeats 1000000 in
theorem there_b (hn : ¬ n < 0) (hn2 : 11 < n)
    (c15 : ∀ W, Calls Try.prog 15 #[A4 C, .int .i64 n] W fun r w' => r = .returned (.tuple #[Z4, .int .i64 1]) ∧ Below W.heap.size W w') :
    Calls Try.prog 7 #[A4 C, .int .i64 n] w fun r w' => r = .returned (.bool true) ∧ Below w.heap.size w w' := by
  have hZ := fun W => A4_same13 0 W
  have x1 : decide (n < 0) = false := decide_eq_false hn
  have x2 : decide (11 < n) = true := decide_eq_true hn2
  rw [Z4_eq] at hZ
  go_enter Try.func7, Try.ntmps7
  go_wp2_with (first
    | (go_at_call 8; refine (c8 _).mono ?_; rintro r w1 ⟨rfl, hb1⟩; obtain ⟨hc1, hf1⟩ := bcell hb1; have hz1_0 : w.heap.size < w1.heap.size := lt_below hb1 ltg; have hl1_0 := Nat.le_of_lt hz1_0; have hA1 := bnext (w0 := w) bgo hb1; have hs1 := hA1.size; clear hb1)
    | (go_at_call 15; refine (c15 _).mono ?_; rintro r w2 ⟨rfl, hb2⟩; obtain ⟨hc2, hf2⟩ := bcell hb2; have hz2_0 : w.heap.size < w2.heap.size := lt_below hb2 ltg; have hl2_0 := Nat.le_of_lt hz2_0; have hA2 := bnext (w0 := w) bgo hb2; have hs2 := hA2.size; clear hb2))
  refine wp_whole (by kernel_rfl) (by kernel_rfl) fun hne hcell => ?_
  repeat go_big_quiet_step (fail)
  refine wpQuiet_nil fun w3 hb3 => ?_
  obtain ⟨hc3, hf3⟩ := bcell hb3; have hz3_0 : w.heap.size < w3.heap.size := lt_below hb3 ltg; have hl3_0 := Nat.le_of_lt hz3_0; have hz3_1 : w2.heap.size < w3.heap.size := lt_below hb3 ltg; have hl3_1 := Nat.le_of_lt hz3_1; have hA3 := bnext (w0 := w) bgo hb3; have hs3 := hA3.size; clear hb3
  go_wp2
  go_ret
  exact ⟨by first | rfl | simp, bgo⟩
set_option maxHeartbeats 4000000 in
theorem there_c (hC : C < 2 ^ 256) (hn : ¬ n < 0) (hn2 : ¬ 11 < n) (S : Int) (hS : 0 ≤ S)
    (c15 : ∀ W, Calls Try.prog 15 #[A4 C, .int .i64 n] W fun r w' => r = .returned (.tuple #[Z4, .int .i64 3]) ∧ Below W.heap.size W w')
    (P : Nat)
    (c20 : ∀ W, Calls Try.prog 20 #[.int .u64 1000, .int .i64 n] W fun r w' => ∃ v, r = .returned v ∧ NV 50000 P v w' ∧ Below W.heap.size W w')
    (c19 : ∀ W v, NV 4 C (.slice (some ⟨w.heap.size, 0, none⟩) 4 4) W → NV 50000 P v W → Calls Try.prog 19 #[.slice (some ⟨w.heap.size, 0, none⟩) 4 4, v] W fun r w' => r = .returned (.int .i64 S) ∧ W = w') :
    Calls Try.prog 7 #[A4 C, .int .i64 n] w fun r w' => r = .returned (.bool true) ∧ Below w.heap.size w w' := by
  have hZ := fun W => A4_same13 0 W
  have HN : Hid (¬ n < 0) := hn
  have HN2 : Hid (¬ 11 < n) := hn2
  have x1 : decide (n < 0) = false := decide_eq_false hn
  have x2 : decide (11 < n) = false := decide_eq_false hn2
  rw [Z4_eq] at hZ
  have hbx := fun W hW => box_nv (w0 := w) (w := W) (B := C) (t := 32) hC hW
  go_enter Try.func7, Try.ntmps7
  go_wp2_with (first
    | (go_at_call 8; refine (c8 _).mono ?_; rintro r w1 ⟨rfl, hb1⟩; have hx1 := hbx _ hb1; obtain ⟨hc1, hf1⟩ := bcell hb1; have hz1_0 : w.heap.size < w1.heap.size := lt_below hb1 ltg; have hl1_0 := Nat.le_of_lt hz1_0; have hA1 := bnext (w0 := w) bgo hb1; have hs1 := hA1.size; clear hb1)
    | (go_at_call 15; refine (c15 _).mono ?_; rintro r w2 ⟨rfl, hb2⟩; have hx2 := hx1.next hb2; obtain ⟨hc2, hf2⟩ := bcell hb2; have hz2_0 : w.heap.size < w2.heap.size := lt_below hb2 ltg; have hl2_0 := Nat.le_of_lt hz2_0; have hA2 := bnext (w0 := w) bgo hb2; have hs2 := hA2.size; clear hb2))
  refine regT5 (h0 := w.heap.size) (h5 := w2.heap.size) (C := C) (P := P) (n := n) (S := S) rfl rfl rfl rfl (by have := HN.out; omega) (by have := HN2.out; omega) hS (by simp) (by rw [W4_zero]; go_simp) (by rw [W4_zero]; go_simp) (by rw [W4_zero]; go_simp) (by rw [W4_zero]; go_simp) (hx2.next (below1 _ _)) c20 c19 ?_
  intro a' w3 h4 hsz hdf hF3 hb3
  have ha := act_of slotsT5 19 rfl hsz hdf hF3
  rw [ha]
  simp only [slotsT5, List.foldl_cons, List.foldl_nil, Act.put, List.setIfInBounds_toArray, List.set_cons_succ, List.set_cons_zero, h4]
  clear ha h4 hsz hdf hF3
  obtain ⟨hc3, hf3⟩ := bcell hb3; have hz3_0 : w.heap.size < w3.heap.size := lt_below hb3 ltg; have hl3_0 := Nat.le_of_lt hz3_0; have hz3_1 : w2.heap.size < w3.heap.size := lt_below hb3 ltg; have hl3_1 := Nat.le_of_lt hz3_1; have hA3 := bnext (w0 := w) bgo hb3; have hs3 := hA3.size; clear hb3
  go_wp2
  go_ret
  exact ⟨rfl, bgo⟩
set_option maxHeartbeats 2000000 in
theorem there_y (V V2 : Nat) (m : Int) (hm : min (n + 1) 11 = m) (hn : 0 ≤ n ∧ n ≤ 11)
    (c15 : ∀ W, Calls Try.prog 15 #[A4 C, .int .i64 n] W fun r w' => r = .returned (.tuple #[A4 V, .int .i64 0]) ∧ Below W.heap.size W w')
    (c17 : ∀ W, Calls Try.prog 17 #[A4 V, .int .i64 n] W fun r w' => r = .returned (.tuple #[A4 C, .int .i64 0]) ∧ Below W.heap.size W w')
    (c15b : ∀ W, Calls Try.prog 15 #[A4 C, .int .i64 m] W fun r w' => r = .returned (.tuple #[A4 V, .int .i64 0]) ∧ Below W.heap.size W w') :
    Calls Try.prog 7 #[A4 C, .int .i64 n] w fun r w' => r = .returned (.bool true) ∧ Below w.heap.size w w' := by
  have hQ1 := A4_same13 C
  have hQ2 := A4_same13 V
  obtain ⟨n0, n1⟩ := hn
  go_enter Try.func7, Try.ntmps7
  go_wp2_with (first
    | (go_at_call 8; refine (c8 _).mono ?_; rintro r w1 ⟨rfl, hb1⟩; obtain ⟨hc1, hf1⟩ := bcell hb1; have hz1_0 : w.heap.size < w1.heap.size := lt_below hb1 ltg; have hl1_0 := Nat.le_of_lt hz1_0; have hA1 := bnext (w0 := w) bgo hb1; have hs1 := hA1.size; clear hb1)
    | (have := hA3; go_at_call 15; refine (c15b _).mono ?_; rintro r w4 ⟨rfl, hb4⟩; obtain ⟨hc4, hf4⟩ := bcell hb4; have hz4_0 : w.heap.size < w4.heap.size := lt_below hb4 ltg; have hl4_0 := Nat.le_of_lt hz4_0; have hz4_1 : w2.heap.size < w4.heap.size := lt_below hb4 ltg; have hl4_1 := Nat.le_of_lt hz4_1; have hz4_2 : w3.heap.size < w4.heap.size := lt_below hb4 ltg; have hl4_2 := Nat.le_of_lt hz4_2; have hA4 := bnext (w0 := w) bgo hb4; have hs4 := hA4.size; clear hb4)
    | (go_at_call 15; refine (c15 _).mono ?_; rintro r w2 ⟨rfl, hb2⟩; obtain ⟨hc2, hf2⟩ := bcell hb2; have hz2_0 : w.heap.size < w2.heap.size := lt_below hb2 ltg; have hl2_0 := Nat.le_of_lt hz2_0; have hA2 := bnext (w0 := w) bgo hb2; have hs2 := hA2.size; clear hb2)
    | (go_at_call 17; refine (c17 _).mono ?_; rintro r w3 ⟨rfl, hb3⟩; obtain ⟨hc3, hf3⟩ := bcell hb3; have hz3_0 : w.heap.size < w3.heap.size := lt_below hb3 ltg; have hl3_0 := Nat.le_of_lt hz3_0; have hz3_1 : w2.heap.size < w3.heap.size := lt_below hb3 ltg; have hl3_1 := Nat.le_of_lt hz3_1; have hA3 := bnext (w0 := w) bgo hb3; have hs3 := hA3.size; clear hb3))
  go_ret
  exact ⟨by first | rfl | simp, bgo⟩
end
theorem pow_1000 (n : Nat) (w : World) (hn : n ≤ 12000) : Calls Try.prog 20 #[.int .u64 1000, .int .i64 (n : Int)] w fun r w' => ∃ v, r = .returned v ∧ NV 50000 (1000 ^ n) v w' ∧ Below w.heap.size w w' := by
  refine (rpow_any 1000 n w (by decide) (by omega)).mono ?_
  rintro r w' ⟨g, k, cap, z, rfl, hk, hN, hv, hb⟩
  unfold NV
  exact ⟨_, rfl, ⟨g, k, cap, z, rfl, by omega, hN, by rw [hv]; simp⟩, hb⟩
theorem sgn_ge {A B : Nat} (h : B ≤ A) : 0 ≤ sgn (A : Int) B := by
  rcases sgn_ways (A : Int) (B : Int) with ⟨a, e⟩ | ⟨a, e⟩ | ⟨a, e⟩ <;> rw [e] <;> omega
theorem decletThere_any (C : Nat) (n : Int) (w : World) (hC : C < 2 ^ 256) : Calls Try.prog 7 #[A4 C, .int .i64 n] w fun r w' => r = .returned (.bool true) ∧ Below w.heap.size w w' := by
  have c8 := fun W => awake13 W
  have c15 := fun W => dpck_any C n W hC
  by_cases h0 : n < 0
  · rw [show dPv C n = 0 from if_neg (by omega), show dPe C n = 1 from if_neg (by omega), Z4_eq] at c15
    exact there_a C n w c8 h0 c15
  · by_cases h1 : 11 < n
    · rw [show dPv C n = 0 from if_neg (by omega), show dPe C n = 1 from if_neg (by omega), Z4_eq] at c15
      exact there_b C n w c8 h0 h1 c15
    · obtain ⟨c, rfl⟩ := Int.eq_ofNat_of_zero_le (show 0 ≤ n by omega)
      have hc : c ≤ 11 := by omega
      have hb : 0 ≤ (c : Int) ∧ (c : Int) ≤ 11 := by omega
      by_cases hq : C < 1000 ^ c
      · have hV : dPv C (c : Int) = dlP c C := by unfold dPv; rw [if_pos hb, Int.toNat_natCast, if_pos hq]
        have hE : dPe C (c : Int) = 0 := by unfold dPe; rw [if_pos hb, Int.toNat_natCast, if_pos hq]
        rw [hV, hE] at c15
        have c17 := fun W => dupk_any (dlP c C) (c : Int) W (dlP_256 c C hc)
        have hl := dlP_lt c C
        rw [show dUv (dlP c C) (c : Int) = C by unfold dUv; rw [if_pos hb, Int.toNat_natCast, if_pos hl, dl_there c C hq], show dUe (dlP c C) (c : Int) = 0 by unfold dUe; rw [if_pos hb, Int.toNat_natCast, if_pos hl]] at c17
        obtain ⟨m, hm, hm11, hmc, hmV⟩ : ∃ m : Nat, min ((c : Int) + 1) 11 = (m : Int) ∧ m ≤ 11 ∧ C < 1000 ^ m ∧ dlP m C = dlP c C := by
          by_cases h11 : c = 11
          · subst h11
            exact ⟨11, by omega, by omega, hq, rfl⟩
          · exact ⟨c + 1, by omega, by omega, Nat.lt_of_lt_of_le hq (Nat.pow_le_pow_right (by decide) (by omega)), dlP_more c C hq⟩
        have c15b := fun W => dpck_any C (m : Int) W hC
        have hmb : 0 ≤ (m : Int) ∧ (m : Int) ≤ 11 := by omega
        rw [show dPv C (m : Int) = dlP c C by unfold dPv; rw [if_pos hmb, Int.toNat_natCast, if_pos hmc, hmV], show dPe C (m : Int) = 0 by unfold dPe; rw [if_pos hmb, Int.toNat_natCast, if_pos hmc]] at c15b
        exact there_y C (c : Int) w c8 (dlP c C) 0 (m : Int) hm hb c15 c17 c15b
      · have hV : dPv C (c : Int) = 0 := by unfold dPv; rw [if_pos hb, Int.toNat_natCast, if_neg hq]
        have hE : dPe C (c : Int) = 3 := by unfold dPe; rw [if_pos hb, Int.toNat_natCast, if_neg hq]
        rw [hV, hE, Z4_eq] at c15
        exact there_c C (c : Int) w c8 hC h0 h1 (sgn (C : Int) ((1000 ^ c : Nat) : Int)) (sgn_ge (by omega)) c15 (1000 ^ c) (fun W => pow_1000 c W (by omega)) (fun W v h1 h2 => rcmp_nv (by decide) (by decide) h1 h2)
end Go.Proofs.Ytpgihikbdmmdpaa
