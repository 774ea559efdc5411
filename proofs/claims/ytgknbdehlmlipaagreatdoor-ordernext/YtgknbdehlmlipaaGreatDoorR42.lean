/-
  Texts that the proof leans on.
-/
import Derived.Test.YtgknbdehlmlipaaGreatDoorR37
import Derived.Test.YtgknbdehlmlipaaGreatDoorR6
import Derived.Test.YtgknbdehlmlipaaGreatDoorR39
set_option linter.unusedVariables false
set_option linter.unusedSectionVars false
set_option linter.unusedSimpArgs false
set_option maxRecDepth 20000
namespace Go.Proofs.YtgknbdehlmlipaaGreatDoor
open Go.RowKit
section
attribute [local irreducible] W4
attribute [local go_sem ↓] ld18_eq
attribute [local go_sem] ld18_got
section
variable (n : Int) (B : Nat) (w : World) (hT : Tab w)
include hT
set_option maxHeartbeats 2000000 in
theorem dfor_n (c1 : ∀ W, Tab W → Calls Tryz.prog 119 #[.int .i64 n, A4 B] W fun r w' => r = .returned (.bool false) ∧ Below W.heap.size W w') :
    Calls Tryz.prog 92 #[.int .i64 n, A4 B] w fun r w' => r = .returned (.tuple #[ZL, .int .i64 1]) ∧ Below w.heap.size w w' := by
  have hsm := cell_set_map
  go_enter Tryz.func92, Tryz.ntmps92
  go_wp2_with (go_at_call 119; refine (c1 _ ((hT.alloc _).alloc _)).mono ?_; rintro r w1 ⟨rfl, hb1⟩; obtain ⟨hc1, hf1⟩ := bcell hb1; have hz1_0 : w.heap.size < w1.heap.size := lt_below hb1 ltg; have hl1_0 := Nat.le_of_lt hz1_0; have hz1_1 : w.heap.size + 1 < w1.heap.size := lt_below hb1 ltg; have hl1_1 := Nat.le_of_lt hz1_1; have hA1 := bnext (w0 := w) bgo hb1; have hs1 := hA1.size; clear hb1)
  exact bodyPost_ret (by simp only [results, Tryz.results92]; go_simp) rfl ⟨rfl, bgo⟩
variable (c1 : ∀ W, Tab W → Calls Tryz.prog 119 #[.int .i64 n, A4 B] W fun r w' => r = .returned (.bool true) ∧ Below W.heap.size W w')
include c1
set_option maxHeartbeats 2000000 in
theorem dfor_b (c2 : ∀ W, Tab W → Calls Tryz.prog 120 #[.int .i64 n] W fun r w' => r = .returned (.tuple #[ZL, .int .i64 1]) ∧ Below W.heap.size W w') :
    Calls Tryz.prog 92 #[.int .i64 n, A4 B] w fun r w' => r = .returned (.tuple #[ZL, .int .i64 1]) ∧ Below w.heap.size w w' := by
  have hsm := cell_set_map
  go_enter Tryz.func92, Tryz.ntmps92
  go_wp2_with (first
    | (go_at_call 119; refine (c1 _ ((hT.alloc _).alloc _)).mono ?_; rintro r w1 ⟨rfl, hb1⟩; have hT1 := ((hT.alloc _).alloc _).go hb1; obtain ⟨hc1, hf1⟩ := bcell hb1; have hz1_0 : w.heap.size < w1.heap.size := lt_below hb1 ltg; have hl1_0 := Nat.le_of_lt hz1_0; have hz1_1 : w.heap.size + 1 < w1.heap.size := lt_below hb1 ltg; have hl1_1 := Nat.le_of_lt hz1_1; have hA1 := bnext (w0 := w) bgo hb1; have hs1 := hA1.size; clear hb1)
    | (go_at_call 120; refine (c2 _ hT1).mono ?_; rintro r w2 ⟨rfl, hb2⟩; obtain ⟨hc2, hf2⟩ := bcell hb2; have hz2_0 : w.heap.size < w2.heap.size := lt_below hb2 ltg; have hl2_0 := Nat.le_of_lt hz2_0; have hz2_1 : w.heap.size + 1 < w2.heap.size := lt_below hb2 ltg; have hl2_1 := Nat.le_of_lt hz2_1; have hA2 := bnext (w0 := w) bgo hb2; have hs2 := hA2.size; clear hb2))
  exact bodyPost_ret (by simp only [results, Tryz.results92]; go_simp) rfl ⟨rfl, bgo⟩
set_option maxHeartbeats 2000000 in
theorem dfor_y (dn : Bool) (g t bl : Int) (wo co pa : Nat) (le mo : Int)
    (c2 : ∀ W, Tab W → Calls Tryz.prog 120 #[.int .i64 n] W fun r w' => r = .returned (.tuple #[LD dn g t bl wo co pa le mo, .int .i64 0]) ∧ Below W.heap.size W w') :
    Calls Tryz.prog 92 #[.int .i64 n, A4 B] w fun r w' => r = .returned (.tuple #[LD dn g t bl wo co pa le mo, .int .i64 0]) ∧ Below w.heap.size w w' := by
  have hsm := cell_set_map
  go_enter Tryz.func92, Tryz.ntmps92
  go_wp2_with (first
    | (go_at_call 119; refine (c1 _ ((hT.alloc _).alloc _)).mono ?_; rintro r w1 ⟨rfl, hb1⟩; have hT1 := ((hT.alloc _).alloc _).go hb1; obtain ⟨hc1, hf1⟩ := bcell hb1; have hz1_0 : w.heap.size < w1.heap.size := lt_below hb1 ltg; have hl1_0 := Nat.le_of_lt hz1_0; have hz1_1 : w.heap.size + 1 < w1.heap.size := lt_below hb1 ltg; have hl1_1 := Nat.le_of_lt hz1_1; have hA1 := bnext (w0 := w) bgo hb1; have hs1 := hA1.size; clear hb1)
    | (go_at_call 120; refine (c2 _ hT1).mono ?_; rintro r w2 ⟨rfl, hb2⟩; obtain ⟨hc2, hf2⟩ := bcell hb2; have hz2_0 : w.heap.size < w2.heap.size := lt_below hb2 ltg; have hl2_0 := Nat.le_of_lt hz2_0; have hz2_1 : w.heap.size + 1 < w2.heap.size := lt_below hb2 ltg; have hl2_1 := Nat.le_of_lt hz2_1; have hA2 := bnext (w0 := w) bgo hb2; have hs2 := hA2.size; clear hb2))
  exact bodyPost_ret (v := .tuple #[LD dn g t bl wo co pa le mo, .int .i64 0]) (by simp only [results, Tryz.results92]; go_simp) rfl ⟨rfl, bgo⟩
end
end
section
attribute [local irreducible] W4
attribute [local go_sem ↓] ld18_eq
attribute [local go_sem] ld18_got
section
variable (n : Int) (w : World) (hT : Tab w)
include hT
set_option maxHeartbeats 2000000 in
theorem dunp_n (B : Nat) (c1 : ∀ W, Tab W → Calls Tryz.prog 92 #[.int .i64 n, A4 B] W fun r w' => r = .returned (.tuple #[ZL, .int .i64 1]) ∧ Below W.heap.size W w') :
    Calls Tryz.prog 66 #[.int .i64 n, A4 B] w fun r w' => r = .returned (.tuple #[.agg #[.int .i64 0, .bool false, .bool false, .int .i64 0, .int .u64 0, .int .u64 0, .int .u64 0, .int .u64 0], .bool false, .int .i64 1]) ∧ Below w.heap.size w w' := by
  have hsm := cell_set_map
  go_enter Tryz.func66, Tryz.ntmps66
  go_wp2_with (go_at_call 92; refine (c1 _ ((hT.alloc _).alloc _)).mono ?_; rintro r w1 ⟨rfl, hb1⟩; obtain ⟨hc1, hf1⟩ := bcell hb1; have hz1_0 : w.heap.size < w1.heap.size := lt_below hb1 ltg; have hl1_0 := Nat.le_of_lt hz1_0; have hz1_1 : w.heap.size + 1 < w1.heap.size := lt_below hb1 ltg; have hl1_1 := Nat.le_of_lt hz1_1; have hA1 := bnext (w0 := w) bgo hb1; have hs1 := hA1.size; clear hb1)
  exact bodyPost_ret (by simp only [results, Tryz.results66]; go_simp) rfl ⟨rfl, bgo⟩
end
end
section
attribute [local irreducible] W4
attribute [local go_sem ↓] ld18_eq
attribute [local go_sem] ld18_got
section
variable (n : Int) (w : World) (hT : Tab w)
include hT
variable (dn : Bool) (g t bl : Int) (wo co pa : Nat) (le mo : Int)
variable (B : Nat) (c1 : ∀ W, Tab W → Calls Tryz.prog 92 #[.int .i64 n, A4 B] W fun r w' => r = .returned (.tuple #[LD dn g t bl wo co pa le mo, .int .i64 0]) ∧ Below W.heap.size W w')
  (c x E : Int) (s q : Bool) (k P : Nat)
  (c2 : ∀ W, Calls Tryz.prog 93 #[LD dn g t bl wo co pa le mo, A4 B] W fun r w' => r = .returned (DV c s q x k) ∧ Below W.heap.size W w')
  (c3 : ∀ W, Calls Tryz.prog 94 #[LD dn g t bl wo co pa le mo, DV c s q x k] W fun r w' => r = .returned (.tuple #[A4 P, .int .i64 E]) ∧ Below W.heap.size W w')
include c1 c2 c3
set_option maxHeartbeats 4000000 in
theorem dunp_y (R : Bool) (hR : decide (W4 P 0 = W4 B 0 ∧ W4 P 1 = W4 B 1 ∧ W4 P 2 = W4 B 2 ∧ W4 P 3 = W4 B 3) = R) : Calls Tryz.prog 66 #[.int .i64 n, A4 B] w fun r w' => r = .returned (.tuple #[DV c s q x k, .bool R, .int .i64 0]) ∧ Below w.heap.size w w' := by
  have hsm := cell_set_map
  have hq := eq24 (W4 P 0) (W4 P 1) (W4 P 2) (W4 P 3) (W4 B 0) (W4 B 1) (W4 B 2) (W4 B 3)
  rw [hR] at hq
  go_enter Tryz.func66, Tryz.ntmps66
  go_wp2_with (first
    | (go_at_call 92; refine (c1 _ ((hT.alloc _).alloc _)).mono ?_; rintro r w1 ⟨rfl, hb1⟩; obtain ⟨hc1, hf1⟩ := bcell hb1; have hz1_0 : w.heap.size < w1.heap.size := lt_below hb1 ltg; have hl1_0 := Nat.le_of_lt hz1_0; have hz1_1 : w.heap.size + 1 < w1.heap.size := lt_below hb1 ltg; have hl1_1 := Nat.le_of_lt hz1_1; have hA1 := bnext (w0 := w) bgo hb1; have hs1 := hA1.size; clear hb1)
    | (go_at_call 93; refine (c2 _).mono ?_; rintro r w2 ⟨rfl, hb2⟩; obtain ⟨hc2, hf2⟩ := bcell hb2; have hz2_0 : w.heap.size < w2.heap.size := lt_below hb2 ltg; have hl2_0 := Nat.le_of_lt hz2_0; have hz2_1 : w.heap.size + 1 < w2.heap.size := lt_below hb2 ltg; have hl2_1 := Nat.le_of_lt hz2_1; have hz2_2 : w1.heap.size < w2.heap.size := lt_below hb2 ltg; have hl2_2 := Nat.le_of_lt hz2_2; have hA2 := bnext (w0 := w) bgo hb2; have hs2 := hA2.size; clear hb2)
    | (go_at_call 94; refine (c3 _).mono ?_; rintro r w3 ⟨rfl, hb3⟩; obtain ⟨hc3, hf3⟩ := bcell hb3; have hz3_0 : w.heap.size < w3.heap.size := lt_below hb3 ltg; have hl3_0 := Nat.le_of_lt hz3_0; have hz3_1 : w.heap.size + 1 < w3.heap.size := lt_below hb3 ltg; have hl3_1 := Nat.le_of_lt hz3_1; have hz3_2 : w1.heap.size < w3.heap.size := lt_below hb3 ltg; have hl3_2 := Nat.le_of_lt hz3_2; have hz3_3 : w2.heap.size < w3.heap.size := lt_below hb3 ltg; have hl3_3 := Nat.le_of_lt hz3_3; have hA3 := bnext (w0 := w) bgo hb3; have hs3 := hA3.size; clear hb3))
  go_region_with (fail)
  all_goals
    go_wp2
    exact bodyPost_ret (v := .tuple #[DV c s q x k, .bool R, .int .i64 0]) (by simp only [results, Tryz.results66]; go_simp) rfl ⟨rfl, bgo⟩
end
end
section
attribute [local irreducible] W4
/-- Unpack's answers of a good pattern and of another one -/
theorem vU_good {n : Int} {B : Nat} (h : goodD n B) : vUD n B = vM (fD n) B ∧ vUC n B = decide (vP (fD n) (vM (fD n) B) = B) ∧ vUE n B = 0 := by
  unfold vUD vUC vUE
  exact ⟨if_pos h, decide_eq_decide.2 ⟨fun q => q.2, fun q => ⟨h, q⟩⟩, if_pos h⟩
theorem vU_bad {n : Int} {B : Nat} (h : ¬ goodD n B) : vUD n B = ⟨0, false, false, 0, 0⟩ ∧ vUC n B = false ∧ vUE n B = 1 := by
  unfold vUD vUC vUE
  exact ⟨if_neg h, decide_eq_false fun q => h q.1, if_neg h⟩
end
section
set_option maxHeartbeats 1000000 in
theorem layof_ok (n : Int) (w : World) (hT : Tab w) (hd : decN n) : Calls Tryz.prog 120 #[.int .i64 n] w fun r w' => r = .returned (.tuple #[LF (fD n), .int .i64 0]) ∧ Below w.heap.size w w' := by
  obtain ⟨hok, f1, f2, f3, f4, f5, f6, f7, f8⟩ := dec_fields hd
  have c1 := fun W hW => ofv_any n W hW
  rw [show infoE n = 0 from if_pos hok, f1, f2, f3, f4, f5, f6, f7, f8] at c1
  have h := fD_ok n
  have hw := h.w12
  generalize fD n = f at *
  have hG : ((f.t + (f.w + 6) : Nat) : Int) / 16 + 9 = ((f.w + 5 : Nat) : Int) := by rcases h with ⟨h1, h2, h3, h4⟩ | ⟨h1, h2, h3, h4⟩ | ⟨h1, h2, h3, h4⟩ <;> rw [h1, h2] <;> rfl
  have cc := fun W => dten_v (3 * f.j + 1) W (by omega)
  have cp := fun W => dten_v (3 * f.j) W (by omega)
  have e1 : ((3 * f.j + 1 : Nat) : Int) = 3 * (f.j : Int) + 1 := by omega
  have e2 : ((3 * f.j : Nat) : Int) = 3 * (f.j : Int) := by omega
  have cw := cp
  rw [e1] at cc
  rw [e2] at cp
  unfold LF
  cases e : f.dn
  · rw [e] at c1
    have eB : vB f = 0 := by unfold vB; rw [e, if_neg (by decide)]
    have eQ : vQ f = 2 ^ f.t := by unfold vQ; rw [e, if_neg (by decide)]
    have cs := fun W => shl4 1 f.t W (by decide) (by omega)
    rw [Nat.one_mul] at cs
    rw [eB, eQ]
    exact dlay_p n _ n _ _ _ _ _ _ w hT _ _ _ _ (by omega) (by omega) hG (by omega) (by omega) (by omega) (by omega) (by omega) cc cp _ c1 (fun W => of4 1 W (by decide)) cs
  · rw [e] at c1
    have eB : vB f = f.w := by unfold vB; rw [e, if_pos rfl]
    have eQ : vQ f = 10 ^ (3 * f.j) := by unfold vQ; rw [e, if_pos rfl]
    rw [eB, eQ]
    rw [show ((3 * f.j : Nat) : Int) = 3 * (f.j : Int) + 1 - 1 by omega] at cw
    exact dlay_d n _ n _ _ _ _ _ _ w hT _ _ _ _ (by omega) (by omega) hG (by omega) (by omega) (by omega) (by omega) (by omega) cc cp _ _ (by omega) (by omega) (by omega) c1 cw
theorem not_dec {n : Int} (h : ¬ decN n) : (okN n ∧ (baseN n != 10) = true) ∨ ¬ okN n := by
  by_cases hk : okN n
  · left
    refine ⟨hk, ?_⟩
    unfold decN at h
    rcases okN_cases hk with rfl | rfl | rfl | rfl | rfl | rfl | rfl | rfl | rfl | rfl | rfl | rfl <;> first | rfl | omega
  · exact Or.inr hk
theorem layof_bad (n : Int) (w : World) (hT : Tab w) (hd : ¬ decN n) : Calls Tryz.prog 120 #[.int .i64 n] w fun r w' => r = .returned (.tuple #[ZL, .int .i64 1]) ∧ Below w.heap.size w w' := by
  have c1 := fun W hW => ofv_any n W hW
  rcases not_dec hd with ⟨hk, hb⟩ | hk
  · rw [show infoE n = 0 from if_pos hk] at c1
    exact dlay_b n _ _ _ _ _ _ _ _ _ _ w hT hb c1
  · rw [show infoE n = 1 from if_neg hk] at c1
    exact dlay_e n _ _ _ _ _ _ _ _ _ _ w hT 1 rfl c1
theorem fits_dec {n : Int} (B : Nat) (hd : decN n) : (okN n ∧ B < 2 ^ (widthN n).toNat) ↔ goodD n B := by
  have hF := dec_fields hd
  rw [hF.2.2.2.1, Int.toNat_natCast]
  exact ⟨fun h => ⟨hd, h.2⟩, fun h => ⟨hF.1, h.2⟩⟩
theorem layfor_ok (n : Int) (B : Nat) (w : World) (hT : Tab w) (hB : B < 2 ^ 256) (hg : goodD n B) : Calls Tryz.prog 92 #[.int .i64 n, A4 B] w fun r w' => r = .returned (.tuple #[LF (fD n), .int .i64 0]) ∧ Below w.heap.size w w' := by
  have c1 := fun W hW => fits4 n B hB W hW
  rw [decide_eq_true ((fits_dec B hg.1).2 hg)] at c1
  exact dfor_y n B w hT c1 _ _ _ _ _ _ _ _ _ (fun W hW => layof_ok n W hW hg.1)
theorem layfor_bad (n : Int) (B : Nat) (w : World) (hT : Tab w) (hB : B < 2 ^ 256) (hg : ¬ goodD n B) : Calls Tryz.prog 92 #[.int .i64 n, A4 B] w fun r w' => r = .returned (.tuple #[ZL, .int .i64 1]) ∧ Below w.heap.size w w' := by
  have c1 := fun W hW => fits4 n B hB W hW
  by_cases hd : decN n
  · rw [decide_eq_false (fun q => hg ((fits_dec B hd).1 q))] at c1
    exact dfor_n n B w hT c1
  · by_cases hf : okN n ∧ B < 2 ^ (widthN n).toNat
    · rw [decide_eq_true hf] at c1
      exact dfor_b n B w hT c1 (fun W hW => layof_bad n W hW hd)
    · rw [decide_eq_false hf] at c1
      exact dfor_n n B w hT c1
/-- decimal.Unpack by value -/
theorem dunpk14 (n : Int) (B : Nat) (hB : B < 2 ^ 256) (W : World) (hT : Tab W) : Calls Tryz.prog 66 #[.int .i64 n, A4 B] W fun r w' => r = .returned (.tuple #[(vUD n B).v, .bool (vUC n B), .int .i64 (vUE n B)]) ∧ Below W.heap.size W w' := by
  by_cases hg : goodD n B
  · obtain ⟨e1, e2, e3⟩ := vU_good hg
    rw [e1, e2, e3]
    have h := fD_ok n
    have c3 := fun W => fpack h (vM (fD n) B) W (vM_256 h B)
    rw [if_pos (vM_is h B), if_pos (vM_is h B)] at c3
    refine dunp_y n W hT _ _ _ _ _ _ _ _ _ B (fun W hW => layfor_ok n B W hW hB hg) _ _ _ _ _ _ _ (fun W => fmean h B W hB) c3 _ ?_
    exact eq_words (vP_256 h (vM_is h B)) hB
  · obtain ⟨e1, e2, e3⟩ := vU_bad hg
    rw [e1, e2, e3, zero_v]
    exact dunp_n n W hT B (fun W hW => layfor_bad n B W hW hB hg)
end
end Go.Proofs.YtgknbdehlmlipaaGreatDoor
