/-
  Texts that the proof leans on.
-/
import Derived.Test.YtpemdcnneabbfaaGreatDoorJ44
import Derived.Test.YtpemdcnneabbfaaGreatDoorJ41
import Derived.Test.YtpemdcnneabbfaaGreatDoorJ31
import Derived.Test.YtpemdcnneabbfaaGreatDoorJ34
import Derived.Test.YtpemdcnneabbfaaGreatDoorJ48
import Derived.Test.YtpemdcnneabbfaaGreatDoorJ3
import Derived.Test.YtpemdcnneabbfaaGreatDoorJ36
import Derived.Test.YtpemdcnneabbfaaGreatDoorJ32
import Derived.Test.YtpemdcnneabbfaaGreatDoorJ27
import Derived.Test.YtpemdcnneabbfaaGreatDoorJ8
import Derived.Test.YtpemdcnneabbfaaGreatDoorJ49
import Derived.Laws.FloatArith
import Derived.Laws.Cover2
import Derived.Test.YtpemdcnneabbfaaGreatDoorJ50
import Derived.Test.YtpemdcnneabbfaaGreatDoorJ29
import Derived.Test.YtpemdcnneabbfaaGreatDoorJ47
import Derived.Test.YtpemdcnneabbfaaGreatDoorJ46
import Derived.Test.YtpemdcnneabbfaaGreatDoorJ24
import Derived.Shelf.SlicesE.Reverse
import Derived.Test.YtpemdcnneabbfaaGreatDoorJ17
import Derived.StillTail
import Derived.Below
import Derived.WalkKit
import Derived.Test.YtpemdcnneabbfaaGreatDoorJ7
import Derived.Test.YtpemdcnneabbfaaGreatDoorJ37
import Derived.Deep.MidRow
import Derived.Test.YtpemdcnneabbfaaGreatDoorJ11
import Derived.RegionTactic
import Derived.ChangeAlike
import Derived.BigRegion
import Derived.Laws.Strings2
import Derived.Test.YtpemdcnneabbfaaGreatDoorJ40
import Derived.Test.YtpemdcnneabbfaaGreatDoorJ6
import Derived.Test.YtpemdcnneabbfaaGreatDoorJ42
set_option linter.unusedVariables false
set_option linter.unusedSectionVars false
set_option linter.unusedSimpArgs false
set_option maxRecDepth 20000
namespace Go.Proofs.YtpemdcnneabbfaaGreatDoor
open Go.RowKit
section
attribute [local irreducible] W4
section
variable (m t d c x : Int) (s g : Bool) (k B : Nat) (I : Value) (w : World) (hT : Tab w)
include hT
set_option maxHeartbeats 2000000 in
theorem cvb_e1
    (c1 : ∀ W, Tab W → Calls Tryz.prog 49 #[.int .i64 m, A4 B] W fun r w' => r = .returned (.tuple #[DV c s g x k, .int .i64 1]) ∧ Below W.heap.size W w') :
    Calls Tryz.prog 24 #[.int .i64 m, .int .i64 t, .int .i64 d, A4 B] w fun r w' => r = .returned (.tuple #[A4 0, .int .i64 0, .int .i64 1]) ∧ Below w.heap.size w w' := by
  rw [Z4_eq]
  have hsm := cell_set_map
  go_enter Tryz.func24, Tryz.ntmps24
  go_wp2_with (first
    | (go_at_call 49; refine (c1 _ (hT.go bgo)).mono ?_; rintro r w1 ⟨rfl, hb1⟩; obtain ⟨hc1, hf1⟩ := bcell hb1; have hz1_0 : w.heap.size < w1.heap.size := lt_below hb1 ltg; have hl1_0 := Nat.le_of_lt hz1_0; have hz1_1 : w.heap.size + 1 < w1.heap.size := lt_below hb1 ltg; have hl1_1 := Nat.le_of_lt hz1_1; have hA1 := bnext (w0 := w) bgo hb1; have hs1 := hA1.size; clear hb1))
  exact bodyPost_ret (by simp only [results, Tryz.results24]; go_simp) rfl ⟨rfl, bgo⟩
variable (c1 : ∀ W, Tab W → Calls Tryz.prog 49 #[.int .i64 m, A4 B] W fun r w' => r = .returned (.tuple #[DV c s g x k, .int .i64 0]) ∧ Below W.heap.size W w')
include c1
set_option maxHeartbeats 2000000 in
theorem cvb_e2
    (c2 : ∀ W, Tab W → Calls Tryz.prog 50 #[.int .i64 t, .int .i64 2, .int .i64 d] W fun r w' => r = .returned (.tuple #[IZ, .int .i64 1]) ∧ Below W.heap.size W w') :
    Calls Tryz.prog 24 #[.int .i64 m, .int .i64 t, .int .i64 d, A4 B] w fun r w' => r = .returned (.tuple #[A4 0, .int .i64 0, .int .i64 1]) ∧ Below w.heap.size w w' := by
  rw [Z4_eq]
  have hsm := cell_set_map
  go_enter Tryz.func24, Tryz.ntmps24
  go_wp2_with (first
    | (go_at_call 49; refine (c1 _ (hT.go bgo)).mono ?_; rintro r w1 ⟨rfl, hb1⟩; obtain ⟨hc1, hf1⟩ := bcell hb1; have hz1_0 : w.heap.size < w1.heap.size := lt_below hb1 ltg; have hl1_0 := Nat.le_of_lt hz1_0; have hz1_1 : w.heap.size + 1 < w1.heap.size := lt_below hb1 ltg; have hl1_1 := Nat.le_of_lt hz1_1; have hA1 := bnext (w0 := w) bgo hb1; have hs1 := hA1.size; clear hb1)
    | (go_at_call 50; refine (c2 _ (hT.go bgo)).mono ?_; rintro r w2 ⟨rfl, hb2⟩; obtain ⟨hc2, hf2⟩ := bcell hb2; have hz2_0 : w.heap.size < w2.heap.size := lt_below hb2 ltg; have hl2_0 := Nat.le_of_lt hz2_0; have hz2_1 : w.heap.size + 1 < w2.heap.size := lt_below hb2 ltg; have hl2_1 := Nat.le_of_lt hz2_1; have hz2_2 : w1.heap.size < w2.heap.size := lt_below hb2 ltg; have hl2_2 := Nat.le_of_lt hz2_2; have hA2 := bnext (w0 := w) bgo hb2; have hs2 := hA2.size; clear hb2))
  exact bodyPost_ret (by simp only [results, Tryz.results24]; go_simp) rfl ⟨rfl, bgo⟩
variable (c2 : ∀ W, Tab W → Calls Tryz.prog 50 #[.int .i64 t, .int .i64 2, .int .i64 d] W fun r w' => r = .returned (.tuple #[InfV t, .int .i64 0]) ∧ Below W.heap.size W w')
include c2
set_option maxHeartbeats 2000000 in
theorem cvb_1 (hc : c = 1) (R : Nat) (F : Int)
    (cR : ∀ W, Tab W → Calls Tryz.prog 13 #[.int .i64 t, .int .i64 d, .bool s, A4 k, .int .i64 x] W fun r w' => r = .returned (.tuple #[A4 R, .int .i64 F, .int .i64 0]) ∧ Below W.heap.size W w') :
    Calls Tryz.prog 24 #[.int .i64 m, .int .i64 t, .int .i64 d, A4 B] w fun r w' => r = .returned (.tuple #[A4 R, .int .i64 F, .int .i64 0]) ∧ Below w.heap.size w w' := by
  subst hc
  have hsm := cell_set_map
  go_enter Tryz.func24, Tryz.ntmps24
  go_wp2_with (first
    | (go_at_call 49; refine (c1 _ (hT.go bgo)).mono ?_; rintro r w1 ⟨rfl, hb1⟩; obtain ⟨hc1, hf1⟩ := bcell hb1; have hz1_0 : w.heap.size < w1.heap.size := lt_below hb1 ltg; have hl1_0 := Nat.le_of_lt hz1_0; have hz1_1 : w.heap.size + 1 < w1.heap.size := lt_below hb1 ltg; have hl1_1 := Nat.le_of_lt hz1_1; have hA1 := bnext (w0 := w) bgo hb1; have hs1 := hA1.size; clear hb1)
    | (go_at_call 50; refine (c2 _ (hT.go bgo)).mono ?_; rintro r w2 ⟨rfl, hb2⟩; obtain ⟨hc2, hf2⟩ := bcell hb2; have hz2_0 : w.heap.size < w2.heap.size := lt_below hb2 ltg; have hl2_0 := Nat.le_of_lt hz2_0; have hz2_1 : w.heap.size + 1 < w2.heap.size := lt_below hb2 ltg; have hl2_1 := Nat.le_of_lt hz2_1; have hz2_2 : w1.heap.size < w2.heap.size := lt_below hb2 ltg; have hl2_2 := Nat.le_of_lt hz2_2; have hA2 := bnext (w0 := w) bgo hb2; have hs2 := hA2.size; clear hb2)
    | (go_at_call 13; refine (cR _ (hT.go bgo)).mono ?_; rintro r w3 ⟨rfl, hb3⟩; obtain ⟨hc3, hf3⟩ := bcell hb3; have hz3_0 : w.heap.size < w3.heap.size := lt_below hb3 ltg; have hl3_0 := Nat.le_of_lt hz3_0; have hz3_1 : w.heap.size + 1 < w3.heap.size := lt_below hb3 ltg; have hl3_1 := Nat.le_of_lt hz3_1; have hz3_2 : w1.heap.size < w3.heap.size := lt_below hb3 ltg; have hl3_2 := Nat.le_of_lt hz3_2; have hz3_3 : w2.heap.size < w3.heap.size := lt_below hb3 ltg; have hl3_3 := Nat.le_of_lt hz3_3; have hA3 := bnext (w0 := w) bgo hb3; have hs3 := hA3.size; clear hb3))
  exact bodyPost_ret (by simp only [results, Tryz.results24]; go_simp) rfl ⟨rfl, bgo⟩
set_option maxHeartbeats 4000000 in
theorem cvb_3 (hc : c = 2 ∨ c = 3) (k' R : Nat) (F : Int)
    (cC : ∀ W, Calls Tryz.prog 51 #[InfV t, DV c s g x k] W fun r w' => r = .returned (.tuple #[DV c s false x k', .int .i64 F]) ∧ Below W.heap.size W w')
    (cP : ∀ W, Tab W → Calls Tryz.prog 48 #[.int .i64 t, DV c s false x k'] W fun r w' => r = .returned (.tuple #[A4 R, .int .i64 0]) ∧ Below W.heap.size W w') :
    Calls Tryz.prog 24 #[.int .i64 m, .int .i64 t, .int .i64 d, A4 B] w fun r w' => r = .returned (.tuple #[A4 R, .int .i64 F, .int .i64 0]) ∧ Below w.heap.size w w' := by
  have hsm := cell_set_map
  rcases hc with rfl | rfl
  all_goals (
    go_enter Tryz.func24, Tryz.ntmps24
    go_wp2_with (first
      | (go_at_call 49; refine (c1 _ (hT.go bgo)).mono ?_; rintro r w1 ⟨rfl, hb1⟩; obtain ⟨hc1, hf1⟩ := bcell hb1; have hz1_0 : w.heap.size < w1.heap.size := lt_below hb1 ltg; have hl1_0 := Nat.le_of_lt hz1_0; have hz1_1 : w.heap.size + 1 < w1.heap.size := lt_below hb1 ltg; have hl1_1 := Nat.le_of_lt hz1_1; have hA1 := bnext (w0 := w) bgo hb1; have hs1 := hA1.size; clear hb1)
      | (go_at_call 50; refine (c2 _ (hT.go bgo)).mono ?_; rintro r w2 ⟨rfl, hb2⟩; obtain ⟨hc2, hf2⟩ := bcell hb2; have hz2_0 : w.heap.size < w2.heap.size := lt_below hb2 ltg; have hl2_0 := Nat.le_of_lt hz2_0; have hz2_1 : w.heap.size + 1 < w2.heap.size := lt_below hb2 ltg; have hl2_1 := Nat.le_of_lt hz2_1; have hz2_2 : w1.heap.size < w2.heap.size := lt_below hb2 ltg; have hl2_2 := Nat.le_of_lt hz2_2; have hA2 := bnext (w0 := w) bgo hb2; have hs2 := hA2.size; clear hb2)
      | (go_at_call 51; refine (cC _).mono ?_; rintro r w3 ⟨rfl, hb3⟩; obtain ⟨hc3, hf3⟩ := bcell hb3; have hz3_0 : w.heap.size < w3.heap.size := lt_below hb3 ltg; have hl3_0 := Nat.le_of_lt hz3_0; have hz3_1 : w.heap.size + 1 < w3.heap.size := lt_below hb3 ltg; have hl3_1 := Nat.le_of_lt hz3_1; have hz3_2 : w1.heap.size < w3.heap.size := lt_below hb3 ltg; have hl3_2 := Nat.le_of_lt hz3_2; have hz3_3 : w2.heap.size < w3.heap.size := lt_below hb3 ltg; have hl3_3 := Nat.le_of_lt hz3_3; have hA3 := bnext (w0 := w) bgo hb3; have hs3 := hA3.size; clear hb3)
      | (go_at_call 48; refine (cP _ (hT.go bgo)).mono ?_; rintro r w4 ⟨rfl, hb4⟩; obtain ⟨hc4, hf4⟩ := bcell hb4; have hz4_0 : w.heap.size < w4.heap.size := lt_below hb4 ltg; have hl4_0 := Nat.le_of_lt hz4_0; have hz4_1 : w.heap.size + 1 < w4.heap.size := lt_below hb4 ltg; have hl4_1 := Nat.le_of_lt hz4_1; have hz4_2 : w1.heap.size < w4.heap.size := lt_below hb4 ltg; have hl4_2 := Nat.le_of_lt hz4_2; have hz4_3 : w2.heap.size < w4.heap.size := lt_below hb4 ltg; have hl4_3 := Nat.le_of_lt hz4_3; have hA4 := bnext (w0 := w) bgo hb4; have hs4 := hA4.size; clear hb4))
    exact bodyPost_ret (by simp only [results, Tryz.results24]; go_simp) rfl ⟨rfl, bgo⟩)
end
theorem conv_v (m t d : Int) (B : Nat) (w : World) (hT : Tab w) (hB : B < 2 ^ 256) :
    Calls Tryz.prog 24 #[.int .i64 m, .int .i64 t, .int .i64 d, A4 B] w fun r w' => r = .returned (.tuple #[A4 (cnV m t d B), .int .i64 (cnF m t d B), .int .i64 (cnE m t d B)]) ∧ Below w.heap.size w w' := by
  have c1 : ∀ W, Tab W → Calls Tryz.prog 49 #[.int .i64 m, A4 B] W fun r w' => r = .returned (.tuple #[DV (unD m B).c (unD m B).s (unD m B).g (unD m B).x (unD m B).k, .int .i64 (unE m B)]) ∧ Below W.heap.size W w' := fun W h => unpack_any m B W h hB
  unfold cnV cnF cnE
  by_cases h1 : goodN m B
  · rw [show unE m B = 0 from if_pos h1] at c1
    by_cases h2 : binN t ∧ knB d
    · obtain ⟨hb, hd⟩ := h2
      obtain ⟨f1, f2, f3, f4, f5, f6⟩ := bin_fields hb
      have c2 := fun W h => starg_y W h f1 f2 hd
      have hc : cnG m t d B := ⟨h1, hb, hd⟩
      rw [if_pos hc, if_pos hc, if_pos hc]
      have hi := und_is h1
      have hkk := unD_k m B
      generalize unD m B = D at *
      obtain ⟨c, s, g, x, k⟩ := D
      dsimp only at c1 hkk
      have cC := fun c W => sconv_v t _ (bin_bound hb) c x s g hkk W
      rcases hi with ⟨i1, i2, i3, i4, i5, i6⟩ | ⟨i1, i2, i3, i4⟩ | ⟨i1, i2, i3, i4⟩
      · dsimp only at i1 i2
        subst i1
        rw [show cvV t d ⟨1, s, g, x, k⟩ = rdV t d s k 1 x from rfl, show cvF t d ⟨1, s, g, x, k⟩ = rdF t d s k 1 x from rfl]
        exact cvb_1 m t d 1 x s g k B w hT c1 c2 rfl _ _ (fun W h => scaled_good t d x s k W h hb hd hkk)
      · dsimp only at i1 i2 i3 i4
        subst i1 i2 i3 i4
        have hE : pkE t ⟨2, s, false, 0, 0⟩ = 0 := by
          unfold pkE
          rw [if_pos hb]
          exact if_pos (Or.inr (Or.inl ⟨rfl, rfl, rfl, rfl⟩))
        have cP := fun W h => pack_any t ⟨2, s, false, 0, 0⟩ W h (show 0 < 2 ^ 256 by decide)
        rw [hE] at cP
        refine cvb_3 m t d 2 0 s false 0 B w hT c1 c2 (Or.inl rfl) _ _ _ (cC 2) ?_
        rw [ite_self]
        exact cP
      · dsimp only at i1 i2
        subst i1 i2
        have hk' : (if k < 2 ^ (fN t - 1) then k else 0) < 2 ^ 256 := by split <;> omega
        have hE : pkE t ⟨3, s, false, 0, if k < 2 ^ (fN t - 1) then k else 0⟩ = 0 := by
          unfold pkE
          rw [if_pos hb]
          refine if_pos (Or.inr (Or.inr ⟨rfl, rfl, ?_, Or.inr rfl⟩))
          dsimp only
          split
          · assumption
          · exact Nat.two_pow_pos _
        have cP := fun W h => pack_any t ⟨3, s, false, 0, if k < 2 ^ (fN t - 1) then k else 0⟩ W h hk'
        rw [hE] at cP
        exact cvb_3 m t d 3 0 s g k B w hT c1 c2 (Or.inr rfl) _ _ _ (cC 3) cP
    · have hc : ¬ cnG m t d B := fun q => h2 q.2
      rw [if_neg hc, if_neg hc, if_neg hc]
      refine cvb_e2 m t d _ _ _ _ _ B w hT c1 (fun W h => starg_n W h ?_)
      rintro ⟨a1, a2, a3⟩
      refine h2 ⟨?_, a3⟩
      apply Classical.byContradiction
      intro hn
      rcases not_bin hn with ⟨q1, q2⟩ | q1
      · rw [a2] at q2; exact absurd q2 (by decide)
      · exact q1 a1
  · rw [show unE m B = 1 from if_neg h1] at c1
    have hc : ¬ cnG m t d B := fun q => h1 q.1
    rw [if_neg hc, if_neg hc, if_neg hc]
    exact cvb_e1 m t d _ _ _ _ _ B w hT c1
end
section
attribute [local irreducible] W4 mo
theorem wide_ld : ld 7205759403792794 1 = 52 := by
  have e1 : bl 7205759403792794 = 53 := bl_eq (by decide) (by decide)
  have e3 : bl 1 = 1 := bl_eq (by decide) (by decide)
  unfold ld
  rw [e1, e3]
  decide
theorem wide_X : rX 3 7205759403792794 1 (-56) = -56 := by unfold rX; rw [wide_ld]; decide
theorem wide_Q : rQ 3 7205759403792794 1 (-56) = -27 := by unfold rQ; rw [wide_ld, wide_X]; decide
theorem wide_C : rC 3 0 false 7205759403792794 1 (-56) = 13421773 := by unfold rC; rw [wide_X, wide_Q]; decide
theorem wide_bl : bl 13421773 = 24 := bl_eq (by decide) (by decide)
theorem wide_V : rdV 3 0 false 7205759403792794 1 (-56) = 1036831949 := by
  unfold rdV rQ' rC'
  rw [wide_C, wide_bl, wide_Q]
  decide
theorem wide_F : rdF 3 0 false 7205759403792794 1 (-56) = 8 := by
  unfold rdF rQ'
  rw [wide_C, wide_bl, wide_Q, wide_X, wide_ld]
  decide
theorem tenth12 : cnV 4 3 0 4591870180066957722 = 1036831949 ∧ cnF 4 3 0 4591870180066957722 = 8 ∧ cnE 4 3 0 4591870180066957722 = 0 := by
  have hg : cnG 4 3 0 4591870180066957722 := ⟨by decide, by decide, by decide⟩
  unfold cnV cnF cnE
  rw [if_pos hg, if_pos hg, if_pos hg]
  have hu : unD 4 4591870180066957722 = ⟨1, false, false, -56, 7205759403792794⟩ := by kernel_rfl
  rw [hu]
  exact ⟨wide_V, wide_F, rfl⟩
end
section
/-- a float64's pattern, narrowed: the pattern, and the flags -/
def nwV (b : Nat) : Nat := cvV 3 0 (unD 4 b)
def nwF (b : Nat) : Int := cvF 3 0 (unD 4 b)
/-- what native's Narrow answers of what is no NaN -/
structure NatN (TT : World → Prop) : Prop where
  next : ∀ w w', TT w → Below w.heap.size w w' → TT w'
  nw : ∀ b W, b < 2 ^ 64 → (unD 4 b).c ≠ 3 → TT W → Calls Tryz.prog 12 #[.float .f64 b] W fun r w' => r = .returned (.tuple #[.float .f32 (nwV b), .int .i64 (nwF b)]) ∧ Below W.heap.size W w'
/-- and FromInt -/
structure NatI (TT : World → Prop) : Prop where
  fi : ∀ n d (m : Int) W, -9223372036854775808 ≤ m ∧ m ≤ 9223372036854775807 → TT W → Calls Tryz.prog 6 #[.int .i64 n, .int .i64 d, .int .i64 m] W fun r w' => r = .returned (.tuple #[A4 (rnV n d (decide (m < 0)) m.natAbs 1 0), .int .i64 (rnF n d (decide (m < 0)) m.natAbs 1 0), .int .i64 (rnE n d m.natAbs 1)]) ∧ Below W.heap.size W w'
theorem awk21_T : nwV 4591870180066957722 = 1036831949 ∧ nwF 4591870180066957722 = 8 ∧ (unD 4 4591870180066957722).c ≠ 3 := by
  have hg : cnG 4 3 0 4591870180066957722 := ⟨by decide, by decide, by decide⟩
  obtain ⟨t1, t2, t3⟩ := tenth12
  rw [show cnV 4 3 0 4591870180066957722 = cvV 3 0 (unD 4 4591870180066957722) from if_pos hg] at t1
  rw [show cnF 4 3 0 4591870180066957722 = cvF 3 0 (unD 4 4591870180066957722) from if_pos hg] at t2
  refine ⟨t1, t2, ?_⟩
  have hu : unD 4 4591870180066957722 = ⟨1, false, false, -56, 7205759403792794⟩ := by kernel_rfl
  rw [hu]
  decide
attribute [local irreducible] W4
set_option maxHeartbeats 1000000 in
theorem awake21 {TT : World → Prop} (h : NatN TT) (w : World) (hT : TT w) : Calls Tryz.prog 5 #[] w fun r w' => r = .returned (.bool true) ∧ Below w.heap.size w w' := by
  obtain ⟨e1, e2, e3⟩ := awk21_T
  have c9 := fun W hW => h.nw 4591870180066957722 W (by decide) e3 hW
  rw [e1, e2] at c9
  clear e1 e2 e3
  have x1 := run_b32 1036831949
  have hsm := cell_set_map
  go_enter Tryz.func5, Tryz.ntmps5
  go_wp2_with (go_at_call 12; refine (c9 _ (h.next _ _ hT bgo)).mono ?_; rintro r w1 ⟨rfl, hb1⟩; obtain ⟨hc1, hf1⟩ := bcell hb1; have hA1 := bnext (w0 := w) bgo hb1; have hs1 := hA1.size; clear hb1)
  go_ret
  exact ⟨by first | rfl | simp, bgo⟩
section
variable (TT : World → Prop) (hTT : ∀ w w', TT w → Below w.heap.size w w' → TT w') (w : World) (hT : TT w)
  (c8 : ∀ W, TT W → Calls Tryz.prog 5 #[] W fun r w' => r = .returned (.bool true) ∧ Below W.heap.size W w')
  (n d : Int) (N V : Nat) (F E : Int)
include hTT hT c8
set_option maxHeartbeats 4000000 in
theorem ni21_p (hm : (N : Int) ≤ 9223372036854775807)
    (c9 : ∀ W, TT W → Calls Tryz.prog 6 #[.int .i64 n, .int .i64 d, .int .i64 (N : Int)] W fun r w' => r = .returned (.tuple #[A4 V, .int .i64 F, .int .i64 E]) ∧ Below W.heap.size W w')
    (c10 : ∀ W v u, Nt 2001 N v W → Nt 2001 1 u W → Calls Tryz.prog 7 #[.int .i64 n, .int .i64 d, .bool false, v, u, .int .i64 0] W fun r w' => r = .returned (.tuple #[A4 V, .int .i64 F, .int .i64 E]) ∧ Below W.heap.size W w') :
    Calls Tryz.prog 3 #[.int .i64 n, .int .i64 d, .int .i64 (N : Int)] w fun r w' => r = .returned (.bool true) ∧ Below w.heap.size w w' := by
  have hsm := cell_set_map
  have e1 := eq24 (W4 V 0) (W4 V 1) (W4 V 2) (W4 V 3) (W4 V 0) (W4 V 1) (W4 V 2) (W4 V 3)
  rw [decide_eq_true ⟨rfl, rfl, rfl, rfl⟩] at e1
  have h0 : ¬ (N : Int) < 0 := by omega
  have hw1 : IntKind.u64.wrap (N : Int) = (N : Int) := by rw [IntKind.wrap_u64]; omega
  have hNb : N < 18446744073709551616 := by omega
  unfold A4 at *
  go_enter Tryz.func3, Tryz.ntmps3
  go_wp2_with (first
    | (go_at_call 5; refine (c8 _ (hTT _ _ hT bgo)).mono ?_; rintro r w1 ⟨rfl, hb1⟩; obtain ⟨hc1, hf1⟩ := bcell hb1; have hA1 := bnext (w0 := w) bgo hb1; have hs1 := hA1.size; clear hb1)
    | (go_at_call 6; refine (c9 _ (hTT _ _ hT bgo)).mono ?_; rintro r w2 ⟨rfl, hb2⟩; obtain ⟨hc2, hf2⟩ := bcell hb2; have hA2 := bnext (w0 := w) bgo hb2; have hs2 := hA2.size; clear hb2)
    | (go_at_call 7; refine (c10 _ _ _ (((nt_one (by simp) rfl hNb).more (by decide)).next (below1 _ _)) ((nt_one (by simp) rfl (by decide)).more (by decide))).mono ?_; rintro r w3 ⟨rfl, hb3⟩; have ez2 : w2.heap.size < w2.heap.size + 1 + 1 + 1 := (by omega); obtain ⟨hc3, hf3⟩ := bcell hb3; have hz3_0 : w2.heap.size < w3.heap.size := lt_below hb3 ltg; have hl3_0 := Nat.le_of_lt hz3_0; have hA3 := bnext (w0 := w) bgo hb3; have hs3 := hA3.size; clear hb3))
  go_ret
  exact ⟨by first | rfl | simp, bgo⟩
set_option maxHeartbeats 4000000 in
theorem ni21_m (hm : (N : Int) ≤ 9223372036854775808) (hN0 : 0 < N)
    (c9 : ∀ W, TT W → Calls Tryz.prog 6 #[.int .i64 n, .int .i64 d, .int .i64 (-(N : Int))] W fun r w' => r = .returned (.tuple #[A4 V, .int .i64 F, .int .i64 E]) ∧ Below W.heap.size W w')
    (c10 : ∀ W v u, Nt 2001 N v W → Nt 2001 1 u W → Calls Tryz.prog 7 #[.int .i64 n, .int .i64 d, .bool true, v, u, .int .i64 0] W fun r w' => r = .returned (.tuple #[A4 V, .int .i64 F, .int .i64 E]) ∧ Below W.heap.size W w') :
    Calls Tryz.prog 3 #[.int .i64 n, .int .i64 d, .int .i64 (-(N : Int))] w fun r w' => r = .returned (.bool true) ∧ Below w.heap.size w w' := by
  have hsm := cell_set_map
  have e1 := eq24 (W4 V 0) (W4 V 1) (W4 V 2) (W4 V 3) (W4 V 0) (W4 V 1) (W4 V 2) (W4 V 3)
  rw [decide_eq_true ⟨rfl, rfl, rfl, rfl⟩] at e1
  have h0 : -(N : Int) < 0 := by omega
  obtain ⟨U, hU⟩ : ∃ U : Int, U = 18446744073709551616 - (N : Int) := ⟨_, rfl⟩
  have hw1 : IntKind.u64.wrap (-(N : Int)) = U := by rw [IntKind.wrap_u64]; omega
  have hw2 : IntKind.u64.wrap (-U) = (N : Int) := by rw [IntKind.wrap_u64]; omega
  have hNb : N < 18446744073709551616 := by omega
  clear hU
  unfold A4 at *
  go_enter Tryz.func3, Tryz.ntmps3
  go_wp2_with (first
    | (go_at_call 5; refine (c8 _ (hTT _ _ hT bgo)).mono ?_; rintro r w1 ⟨rfl, hb1⟩; obtain ⟨hc1, hf1⟩ := bcell hb1; have hA1 := bnext (w0 := w) bgo hb1; have hs1 := hA1.size; clear hb1)
    | (go_at_call 6; refine (c9 _ (hTT _ _ hT bgo)).mono ?_; rintro r w2 ⟨rfl, hb2⟩; obtain ⟨hc2, hf2⟩ := bcell hb2; have hA2 := bnext (w0 := w) bgo hb2; have hs2 := hA2.size; clear hb2)
    | (go_at_call 7; refine (c10 _ _ _ (((nt_one (by simp) rfl hNb).more (by decide)).next (below1 _ _)) ((nt_one (by simp) rfl (by decide)).more (by decide))).mono ?_; rintro r w3 ⟨rfl, hb3⟩; have ez2 : w2.heap.size < w2.heap.size + 1 + 1 + 1 := (by omega); obtain ⟨hc3, hf3⟩ := bcell hb3; have hz3_0 : w2.heap.size < w3.heap.size := lt_below hb3 ltg; have hl3_0 := Nat.le_of_lt hz3_0; have hA3 := bnext (w0 := w) bgo hb3; have hs3 := hA3.size; clear hb3))
  go_ret
  exact ⟨by first | rfl | simp, bgo⟩
end
theorem ints21_v {TT : World → Prop} (h : NatN TT) (hI : NatI TT) (n d m : Int) (w : World) (hT : TT w) (hm : -9223372036854775808 ≤ m ∧ m ≤ 9223372036854775807) :
    Calls Tryz.prog 3 #[.int .i64 n, .int .i64 d, .int .i64 m] w fun r w' => r = .returned (.bool true) ∧ Below w.heap.size w w' := by
  have c8 := fun W hW => awake21 h W hW
  have c9 := fun W hW => hI.fi n d m W hm hW
  have c10 := fun (W : World) (v u : Value) (h1 : Nt 2001 m.natAbs v W) (h2 : Nt 2001 1 u W) => rb12_any n d 0 (decide (m < 0)) h1 h2
  by_cases h0 : m < 0
  · obtain ⟨N, rfl⟩ : ∃ N : Nat, m = -(N : Int) := ⟨m.natAbs, by omega⟩
    rw [show (-(N : Int)).natAbs = N by omega, decide_eq_true h0] at c9 c10
    exact ni21_m TT h.next w hT c8 n d N _ _ _ (by omega) (by omega) c9 c10
  · obtain ⟨N, rfl⟩ : ∃ N : Nat, m = (N : Int) := ⟨m.natAbs, by omega⟩
    rw [show ((N : Int)).natAbs = N by omega, decide_eq_false h0] at c9 c10
    exact ni21_p TT h.next w hT c8 n d N _ _ _ (by omega) c9 c10
end
section
theorem A4_oneT {K : Nat} (h : K < 18446744073709551616) : A4 K = .agg #[.int .u64 (K : Int), .int .u64 0, .int .u64 0, .int .u64 0] := by
  unfold A4
  rw [show W4 K 0 = (K : Int) by unfold W4; rw [Nat.mul_zero, Nat.pow_zero, Nat.div_one, Nat.mod_eq_of_lt h]]
  have z : ∀ i, 0 < i → W4 K i = 0 := fun i hi => by
    unfold W4
    rw [Nat.div_eq_of_lt (Nat.lt_of_lt_of_le h (Nat.le_trans (show 18446744073709551616 ≤ 2 ^ 64 by decide) (Nat.pow_le_pow_right (by decide) (by omega))))]
    rfl
  rw [z 1 (by decide), z 2 (by decide), z 3 (by decide)]
theorem nw_lt (b : Nat) : nwV b < 4294967296 := by
  unfold nwV
  generalize unD 4 b = D
  obtain ⟨c, s, g, x, k⟩ := D
  obtain ⟨h1, _, h2⟩ := cv_turn (t := 3) 0 (by decide) c g x k
  rw [show othD 0 = 0 by decide] at h1
  have hp : 2 ^ (fN 3 + eN 3) = 2147483648 := by decide
  rw [hp] at h1 h2
  cases s <;> omega
attribute [local irreducible] W4
set_option maxHeartbeats 1000000 in
theorem nf3_y (B : Nat) (w : World) (hT : Tab w) (hB : B < 2 ^ 32) :
    Calls Tryz.prog 26 #[A4 B] w fun r w' => r = .returned (.tuple #[.float .f32 B, .int .i64 0]) ∧ Below w.heap.size w w' := by
  have c1 := fun W hW => fits4 3 B (Nat.lt_trans hB (by decide)) W hW
  rw [decide_eq_true (show okN 3 ∧ B < 2 ^ (widthN 3).toNat from ⟨by decide, Nat.lt_of_lt_of_le hB (by decide)⟩)] at c1
  have x1 := run_f32 (B : Int)
  rw [Int.toNat_natCast] at x1
  have hw1 : IntKind.u32.wrap (B : Int) = (B : Int) := by rw [IntKind.wrap_u32]; omega
  rw [A4_oneT (show B < 18446744073709551616 by omega)] at c1 ⊢
  have hsm := cell_set_map
  go_enter Tryz.func26, Tryz.ntmps26
  go_wp2_with (go_at_call 52; refine (c1 _ (hT.go bgo)).mono ?_; rintro r w1 ⟨rfl, hb1⟩; obtain ⟨hc1, hf1⟩ := bcell hb1; have hz1_0 : w.heap.size < w1.heap.size := lt_below hb1 ltg; have hl1_0 := Nat.le_of_lt hz1_0; have hA1 := bnext (w0 := w) bgo hb1; have hs1 := hA1.size; clear hb1)
  exact bodyPost_ret (by simp only [results, Tryz.results26]; go_simp) rfl ⟨rfl, bgo⟩
set_option maxHeartbeats 1000000 in
theorem nt6_v (p : Nat) (w : World) (hp : p < 2 ^ 64) :
    Calls Tryz.prog 25 #[.float .f64 p] w fun r w' => r = .returned (A4 p) ∧ Below w.heap.size w w' := by
  have x1 := run_b64 p
  rw [A4_oneT hp]
  have hsm := cell_set_map
  go_enter Tryz.func25, Tryz.ntmps25
  go_wp2
  exact bodyPost_ret (by simp only [results, Tryz.results25]; go_simp) rfl ⟨rfl, bgo⟩
set_option maxHeartbeats 2000000 in
theorem nnw_p (b V : Nat) (F : Int) (w : World) (hT : Tab w)
    (c1 : ∀ W, Calls Tryz.prog 25 #[.float .f64 b] W fun r w' => r = .returned (A4 b) ∧ Below W.heap.size W w')
    (c2 : ∀ W, Tab W → Calls Tryz.prog 24 #[.int .i64 4, .int .i64 3, .int .i64 0, A4 b] W fun r w' => r = .returned (.tuple #[A4 V, .int .i64 F, .int .i64 0]) ∧ Below W.heap.size W w')
    (c3 : ∀ W, Tab W → Calls Tryz.prog 26 #[A4 V] W fun r w' => r = .returned (.tuple #[.float .f32 V, .int .i64 0]) ∧ Below W.heap.size W w') :
    Calls Tryz.prog 12 #[.float .f64 b] w fun r w' => r = .returned (.tuple #[.float .f32 V, .int .i64 F]) ∧ Below w.heap.size w w' := by
  have hsm := cell_set_map
  go_enter Tryz.func12, Tryz.ntmps12
  go_wp2_with (first
    | (go_at_call 25; refine (c1 _).mono ?_; rintro r w1 ⟨rfl, hb1⟩; obtain ⟨hc1, hf1⟩ := bcell hb1; have hA1 := bnext (w0 := w) bgo hb1; have hs1 := hA1.size; clear hb1)
    | (go_at_call 24; refine (c2 _ (hT.go bgo)).mono ?_; rintro r w2 ⟨rfl, hb2⟩; obtain ⟨hc2, hf2⟩ := bcell hb2; have hA2 := bnext (w0 := w) bgo hb2; have hs2 := hA2.size; clear hb2)
    | (go_at_call 26; refine (c3 _ (hT.go bgo)).mono ?_; rintro r w3 ⟨rfl, hb3⟩; obtain ⟨hc3, hf3⟩ := bcell hb3; have hz3_0 : w2.heap.size < w3.heap.size := lt_below hb3 ltg; have hl3_0 := Nat.le_of_lt hz3_0; have hA3 := bnext (w0 := w) bgo hb3; have hs3 := hA3.size; clear hb3))
  exact bodyPost_ret (by simp only [results, Tryz.results12]; go_simp) rfl ⟨rfl, bgo⟩
theorem nnw_v (b : Nat) (w : World) (hT : Tab w) (hb : b < 2 ^ 64) :
    Calls Tryz.prog 12 #[.float .f64 b] w fun r w' => r = .returned (.tuple #[.float .f32 (nwV b), .int .i64 (nwF b)]) ∧ Below w.heap.size w w' := by
  have hg : cnG 4 3 0 b := ⟨⟨by decide, Nat.lt_of_lt_of_le hb (by decide)⟩, by decide, by decide⟩
  have c2 := fun W hW => conv_v 4 3 0 b W hW (Nat.lt_trans hb (by decide))
  rw [show cnV 4 3 0 b = nwV b from if_pos hg, show cnF 4 3 0 b = nwF b from if_pos hg, show cnE 4 3 0 b = 0 from if_pos hg] at c2
  exact nnw_p b _ _ w hT (fun W => nt6_v b W hb) c2 (fun W hW => nf3_y _ W hW (nw_lt b))
theorem natN : NatN Tab := ⟨fun _ _ h hb => h.go hb, fun b W hb _ hT => nnw_v b W hT hb⟩
end
section
attribute [local irreducible] W4
section
variable (n d : Int) (N V : Nat) (F E : Int) (w : World) (hT : Tab w)
include hT
set_option maxHeartbeats 2000000 in
theorem nfi_p (hm : (N : Int) ≤ 9223372036854775807)
    (c1 : ∀ W, Tab W → Calls Tryz.prog 13 #[.int .i64 n, .int .i64 d, .bool false, A4 N, .int .i64 0] W fun r w' => r = .returned (.tuple #[A4 V, .int .i64 F, .int .i64 E]) ∧ Below W.heap.size W w') :
    Calls Tryz.prog 6 #[.int .i64 n, .int .i64 d, .int .i64 (N : Int)] w fun r w' => r = .returned (.tuple #[A4 V, .int .i64 F, .int .i64 E]) ∧ Below w.heap.size w w' := by
  have hsm := cell_set_map
  have h0 : ¬ (N : Int) < 0 := by omega
  have hw1 : IntKind.u64.wrap (N : Int) = (N : Int) := by rw [IntKind.wrap_u64]; omega
  rw [A4_oneT (K := N) (by omega)] at c1
  go_enter Tryz.func6, Tryz.ntmps6
  go_wp2_with (go_at_call 13; refine (c1 _ (hT.go bgo)).mono ?_; rintro r w1 ⟨rfl, hb1⟩; obtain ⟨hc1, hf1⟩ := bcell hb1; have hz1_0 : w.heap.size < w1.heap.size := lt_below hb1 ltg; have hl1_0 := Nat.le_of_lt hz1_0; have hA1 := bnext (w0 := w) bgo hb1; have hs1 := hA1.size; clear hb1)
  exact bodyPost_ret (by simp only [results, Tryz.results6]; go_simp) rfl ⟨rfl, bgo⟩
set_option maxHeartbeats 2000000 in
theorem nfi_m (hm : (N : Int) ≤ 9223372036854775808) (hN0 : 0 < N)
    (c1 : ∀ W, Tab W → Calls Tryz.prog 13 #[.int .i64 n, .int .i64 d, .bool true, A4 N, .int .i64 0] W fun r w' => r = .returned (.tuple #[A4 V, .int .i64 F, .int .i64 E]) ∧ Below W.heap.size W w') :
    Calls Tryz.prog 6 #[.int .i64 n, .int .i64 d, .int .i64 (-(N : Int))] w fun r w' => r = .returned (.tuple #[A4 V, .int .i64 F, .int .i64 E]) ∧ Below w.heap.size w w' := by
  have hsm := cell_set_map
  have h0 : -(N : Int) < 0 := by omega
  obtain ⟨U, hU⟩ : ∃ U : Int, U = 18446744073709551616 - (N : Int) := ⟨_, rfl⟩
  have hw1 : IntKind.u64.wrap (-(N : Int)) = U := by rw [IntKind.wrap_u64]; omega
  have hw2 : IntKind.u64.wrap (-U) = (N : Int) := by rw [IntKind.wrap_u64]; omega
  clear hU
  rw [A4_oneT (K := N) (by omega)] at c1
  go_enter Tryz.func6, Tryz.ntmps6
  go_wp2_with (go_at_call 13; refine (c1 _ (hT.go bgo)).mono ?_; rintro r w1 ⟨rfl, hb1⟩; obtain ⟨hc1, hf1⟩ := bcell hb1; have hz1_0 : w.heap.size < w1.heap.size := lt_below hb1 ltg; have hl1_0 := Nat.le_of_lt hz1_0; have hA1 := bnext (w0 := w) bgo hb1; have hs1 := hA1.size; clear hb1)
  exact bodyPost_ret (by simp only [results, Tryz.results6]; go_simp) rfl ⟨rfl, bgo⟩
end
theorem nfi_v (n d m : Int) (w : World) (hT : Tab w) (hm : -9223372036854775808 ≤ m ∧ m ≤ 9223372036854775807) :
    Calls Tryz.prog 6 #[.int .i64 n, .int .i64 d, .int .i64 m] w fun r w' => r = .returned (.tuple #[A4 (rnV n d (decide (m < 0)) m.natAbs 1 0), .int .i64 (rnF n d (decide (m < 0)) m.natAbs 1 0), .int .i64 (rnE n d m.natAbs 1)]) ∧ Below w.heap.size w w' := by
  have c1 := fun W hW => scaled_any n d 0 (decide (m < 0)) m.natAbs W hW (Nat.lt_of_le_of_lt (show m.natAbs ≤ 9223372036854775808 by omega) (by decide))
  by_cases h0 : m < 0
  · obtain ⟨N, rfl⟩ : ∃ N : Nat, m = -(N : Int) := ⟨m.natAbs, by omega⟩
    rw [show (-(N : Int)).natAbs = N by omega, decide_eq_true h0] at c1 ⊢
    exact nfi_m n d N _ _ _ w hT (by omega) (by omega) c1
  · obtain ⟨N, rfl⟩ : ∃ N : Nat, m = (N : Int) := ⟨m.natAbs, by omega⟩
    rw [show ((N : Int)).natAbs = N by omega, decide_eq_false h0] at c1 ⊢
    exact nfi_p n d N _ _ _ w hT (by omega) c1
theorem natI : NatI Tab := ⟨fun n d m W hm hT => nfi_v n d m W hT hm⟩
end
theorem nativeInts_any (n d m : Int) (w : World) (hT : Tab w) (hm : -9223372036854775808 ≤ m ∧ m ≤ 9223372036854775807) :
    Calls Tryz.prog 3 #[.int .i64 n, .int .i64 d, .int .i64 m] w fun r w' => r = .returned (.bool true) ∧ Below w.heap.size w w' :=
  ints21_v natN natI n d m w hT hm
theorem fm_zero {n : Int} {F : Ieee.Format} (h : FmtOf n F) (s : Bool) (x : Int) : F.nearest s 0 x = sgN n s := by
  unfold Ieee.Format.nearest
  rw [if_pos rfl, fm_word h, Nat.zero_add]
theorem zero_pk {n : Int} (hb : binN n) (s : Bool) (d x : Int) : rdV n d s 0 1 x = sgN n s := by
  unfold rdV
  have hD : isD (fN n) (leastN n) (mostN n) ⟨1, s, false, leastN n, 0⟩ := Or.inl ⟨rfl, rfl, Nat.two_pow_pos _, Int.le_refl _, (by rcases bin_cases hb with rfl | rfl | rfl | rfl | rfl | rfl <;> (dsimp only; decide)), Or.inr rfl⟩
  rw [if_pos rfl]
  have e := pk_fin hb hD
  rw [Int.sub_self, show (0 : Int).toNat = 0 from rfl, Nat.zero_mul, Nat.zero_add] at e
  exact e.trans (by simp)
section
theorem A4_sm21 {K : Nat} (h : K < 18446744073709551616) : A4 K = .agg #[.int .u64 (K : Int), .int .u64 0, .int .u64 0, .int .u64 0] := by
  have e : ∀ i, i ≠ 0 → W4 K i = 0 := fun i hi => by
    unfold W4
    have h1 : 18446744073709551616 ≤ 2 ^ (64 * i) := by
      have : (2 : Nat) ^ 64 ≤ 2 ^ (64 * i) := Nat.pow_le_pow_right (by decide) (by omega)
      exact this
    rw [Nat.div_eq_of_lt (by omega)]
    rfl
  have e0 : W4 K 0 = (K : Int) := by
    unfold W4
    rw [Nat.mul_zero, Nat.pow_zero, Nat.div_one, Nat.mod_eq_of_lt h]
  unfold A4
  rw [e0, e 1 (by decide), e 2 (by decide), e 3 (by decide)]
attribute [local irreducible] W4
end
theorem tex_len2 {c : Int} {s g : Bool} {d : List UInt8} {e : Int} (he : -9223372036854775808 ≤ e ∧ e ≤ 9223372036854775807) : (texT c s g d e).length ≤ d.length + 100 := by
  have hi := Lib.itoa_length_le e he.1 he.2
  have h1 : (bodT c g d e).length ≤ d.length + 50 := by
    unfold bodT
    split
    · simp
    · split
      · unfold nanT
        simp only [List.length_append, List.length_cons]
        split <;> split <;> simp <;> omega
      · unfold finT dgT exT
        simp only [List.length_append]
        split <;> split <;> simp <;> omega
  unfold texT
  rw [List.length_append]
  split <;> simp <;> omega
theorem cut_dl {l : List UInt8} {p : Prt} (h : cutP l = some p) : p.dig.length ≤ l.length := by
  unfold cutP at h
  split at h
  · cases h
  · rename_i hl
    have hs := sgR_le l
    unfold bodP at h
    split at h
    · cases h
      show (finD (sgR l)).length ≤ l.length
      unfold finD
      have h1 := bar_le (dgs (sgR l) ++ frac (sgR l))
      have h2 := congrArg List.length (dgs_rst (sgR l))
      have h3 : (frac (sgR l)).length ≤ (rst (sgR l)).length := by
        unfold frac; split
        · exact Nat.le_trans (dgs_le _) (trimPre_le _ _)
        · simp
      rw [List.length_append] at h1 h2
      omega
    · split at h
      · cases h
        exact Nat.zero_le _
      · split at h
        · cases h
          show (bar (paD (nanR (sml (sgR l))))).length ≤ l.length
          have h1 := bar_le (paD (nanR (sml (sgR l))))
          have h2 : (paD (nanR (sml (sgR l)))).length ≤ (nanR (sml (sgR l))).length := by
            unfold paD
            split
            · exact Nat.le_trans (dgs_le _) (trimPre_le _ _)
            · exact Nat.zero_le _
          have h3 : (nanR (sml (sgR l))).length ≤ (sml (sgR l)).length := by
            unfold nanR
            exact Nat.le_trans (trimPre_le _ _) (trimPre_le _ _)
          rw [sml_len] at h3
          omega
        · cases h
theorem cut_jn {l : List UInt8} {p : Prt} (h : cutP l = some p) (hl : l.length ≤ 3001) : jnP p := by
  have h1 := cut_good h
  have h2 := cut_dl h
  have h3 := tex_len2 (c := p.cls) (s := p.sg) (g := p.sn) (d := p.dig) (cut_ex h)
  refine jn_of_gd ⟨h1.1, ?_⟩
  rcases h1.2 with ⟨a, b, c⟩ | h | ⟨a, b⟩
  · exact Or.inl ⟨a, b, c, by omega⟩
  · exact Or.inr (Or.inl h)
  · exact Or.inr (Or.inr ⟨a, b, by omega⟩)
/-- the parts with this sign -/
def Prt.at (p : Prt) (s : Bool) : Prt := ⟨p.cls, s, p.sn, p.dig, p.ex⟩
/-! Make by value -/
def mkV (n d : Int) (p : Prt) : Nat := if p.cls = 1 then rdV n d p.sg (tN (dV p.dig) (pwE p.dig.length p.ex)) (tD (pwE p.dig.length p.ex)) (pwE p.dig.length p.ex) else if p.cls = 2 then pkV n ⟨2, p.sg, false, 0, 0⟩ else pkV n ⟨3, p.sg, p.sn, 0, plV (fN n) p.sn (dV p.dig)⟩
def mkF (n d : Int) (p : Prt) : Int := if p.cls = 1 then rdF n d p.sg (tN (dV p.dig) (pwE p.dig.length p.ex)) (tD (pwE p.dig.length p.ex)) (pwE p.dig.length p.ex) else 0
theorem make_v {n d : Int} {p : Prt} (hb : binN n) (hk : knB d) (hj : jnP p) (he : -9223372036854775808 ≤ p.ex ∧ p.ex ≤ 9223372036854775807) (W : World) (hT : Tab W) (hT10 : Tb10 W) :
    Calls Tryz.prog 23 #[.int .i64 n, .int .i64 d, p.v] W fun r w' => r = .returned (.tuple #[A4 (mkV n d p), .int .i64 (mkF n d p), .int .i64 0]) ∧ Below W.heap.size W w' := by
  have c28 := fun W (hT : Tab W) => rck_good n d W hT ⟨hb, hk⟩
  have hgd := gd_of_jn hj
  have hl4 := hj.1
  obtain ⟨hdD, hcls⟩ := id hgd
  have hall := gdD_all hdD
  obtain ⟨fl1, fl2, fl3, fl4, fl5⟩ := fld_bd hb
  have hf2 := fN_ge hb
  unfold mkV mkF
  rcases hcls with ⟨hc, hsn, hx, _⟩ | ⟨hc, hsn, hd0, hx0⟩ | ⟨hc, hx0, _⟩
  · rw [if_pos hc, if_pos hc]
    exact make_1 n d p.cls p.sg p.sn p.dig p.ex _ _ _ _ _ _ _ W hT c28 (fun W' hW' => join_y p W' (hT10.next hW') he hj) hc _ _ _ (fun W' hT' => finite8 n d 1 p.sg p.sn p.dig p.ex W' hT' hb hk hall hl4)
  · have hc1 : ¬ p.cls = 1 := by omega
    rw [if_neg hc1, if_neg hc1, if_pos hc]
    have hi : isD (fN n) (leastN n) (mostN n) ⟨2, p.sg, false, 0, 0⟩ := Or.inr (Or.inl ⟨rfl, rfl, rfl, rfl⟩)
    have hE : pkE n ⟨2, p.sg, false, 0, 0⟩ = 0 := by unfold pkE; rw [if_pos hb, if_pos hi]
    have c34 := fun W hT => pack_any n ⟨2, p.sg, false, 0, 0⟩ W hT (show 0 < 2 ^ 256 by decide)
    rw [show (Dat.v ⟨2, p.sg, false, 0, 0⟩) = _ from DV_zero 2 p.sg false 0, hE] at c34
    exact make_2 n d p.cls p.sg p.sn p.dig p.ex _ _ _ _ _ _ _ W hT c28 (fun W' hW' => join_y p W' (hT10.next hW') he hj) hc _ _ (by rw [hsn]; exact c34)
  · have hc1 : ¬ p.cls = 1 := by omega
    have hc2 : ¬ p.cls = 2 := by omega
    rw [if_neg hc1, if_neg hc1, if_neg hc2]
    have hi := pl_isD (l := leastN n) (m := mostN n) p.sg p.sn (dV p.dig) hf2
    have hE : pkE n ⟨3, p.sg, p.sn, 0, plV (fN n) p.sn (dV p.dig)⟩ = 0 := by unfold pkE; rw [if_pos hb, if_pos hi]
    have hlt := plV_lt (f := fN n) (A := dV p.dig) p.sn fl4
    have c34 := fun W hT => pack_any n ⟨3, p.sg, p.sn, 0, plV (fN n) p.sn (dV p.dig)⟩ W hT hlt
    rw [hE] at c34
    exact make_3 n d p.cls p.sg p.sn p.dig p.ex _ _ _ _ _ _ _ W hT c28 (fun W' hW' => join_y p W' (hT10.next hW') he hj) hc _ _ _ (fun W' => payload8 _ _ _ _ _ _ _ 3 p.sg p.sn p.dig p.ex W' fl4 hall hl4) c34
/-! Read by value -/
theorem read_v {n d : Int} {l : List UInt8} {p : Prt} (hb : binN n) (hk : knB d) (h : cutP l = some p) (hl : l.length ≤ 3001) (W : World) (hT : Tab W) (hT10 : Tb10 W) :
    Calls Tryz.prog 11 #[.int .i64 n, .int .i64 d, .string (B l)] W fun r w' => r = .returned (.tuple #[A4 (mkV n d p), .int .i64 (mkF n d p), .int .i64 0]) ∧ Below W.heap.size W w' := by
  have c29 := fun W => cut_any l W (by omega)
  rw [(cutE_some h).1, (cutE_some h).2] at c29
  exact read_k n d l p _ _ _ _ _ _ W hT _ _ _ (fun W hT => rck_good n d W hT ⟨hb, hk⟩) c29 (fun W' hW' => make_v hb hk (cut_jn h hl) (cut_ex h) W' (hT.go hW') (hT10.next hW'))
section
theorem decL_rev {V : Int} {L : Nat} (h0 : 0 < V) (h : V < 10 ^ L) : revL V (sizeL (dgt V) L) = decL V L := by
  unfold decL revL
  rw [if_neg]
  intro e
  have := lt_sizeL (Int.le_of_lt h0) L h
  rw [e] at this; simp at this; omega
theorem sb_nums {l : List Int} (hl : ∀ v ∈ l, 48 ≤ v ∧ v ≤ 57) {i : Nat} (hi : i < l.length) : sb (strOfNums l) i = l[i] := by
  unfold sb
  rw [dif_pos (by rw [strOfNums_size]; exact hi)]
  have h := hl l[i] (List.getElem_mem hi)
  have e : (strOfNums l)[i]'(by rw [strOfNums_size]; exact hi) = UInt8.ofNat l[i].toNat := by
    show (strOfNums l).data[i]'_ = _
    simp [strOfNums]
  rw [e]
  simp
  omega
theorem numV_rev {V : Int} {K : Nat} {u : ByteArray} (hu : ∀ i, i < K → sb u i = 48 + dgt V (K - 1 - i)) (h0 : 0 ≤ V) (hV : V < 10 ^ K) : ∀ j, j ≤ K → numV u j = V / 10 ^ (K - j)
  | 0, _ => by rw [Nat.sub_zero, Int.ediv_eq_zero_of_lt h0 hV]; rfl
  | j + 1, h => by
    have ih := numV_rev hu h0 hV j (by omega)
    simp only [numV]
    rw [ih, hu j (by omega)]
    have e1 : K - j = (K - (j + 1)) + 1 := by omega
    have e2 : K - 1 - j = K - (j + 1) := by omega
    rw [e1, e2]
    unfold dgt
    rw [← div_div10]
    generalize V / 10 ^ (K - (j + 1)) = W
    omega
/-- the digits of a number -/
def dcD (V : Int) (L : Nat) : List UInt8 := (strOfNums (revL V (sizeL (dgt V) L))).data.toList
theorem dcD_facts {V : Int} {L : Nat} (h0 : 0 < V) (h : V < 10 ^ L) : gdD (dcD V L) ∧ (dV (dcD V L) : Int) = V ∧ (dcD V L).length ≤ L := by
  have hK := lt_sizeL (Int.le_of_lt h0) L h
  have hKp : 0 < sizeL (dgt V) L := by
    rcases Nat.eq_zero_or_pos (sizeL (dgt V) L) with e | e
    · rw [e] at hK; simp at hK; omega
    · exact e
  have hKL := sizeL_le (dgt V) L
  have htop := sizeL_top L hKp
  have hB : B (dcD V L) = strOfNums (revL V (sizeL (dgt V) L)) := B_of _
  have hd : ∀ v ∈ revL V (sizeL (dgt V) L), 48 ≤ v ∧ v ≤ 57 := by
    intro v hv
    simp [revL] at hv
    obtain ⟨i, _, rfl⟩ := hv
    have := dgt_bd V (sizeL (dgt V) L - 1 - i)
    omega
  have hrl : (revL V (sizeL (dgt V) L)).length = sizeL (dgt V) L := by simp [revL]
  have hsz : (dcD V L).length = sizeL (dgt V) L := by
    rw [← B_size, hB, strOfNums_size, hrl]
  have hby : ∀ i, i < sizeL (dgt V) L → by_ (dcD V L) i = 48 + dgt V (sizeL (dgt V) L - 1 - i) := fun i hi => by
    rw [← sb_by, hB, sb_nums hd (by rw [hrl]; exact hi)]; simp [revL]
  have hall : (dcD V L).all dg = true := (all_dg _).2 fun i hi => by
    rw [hsz] at hi
    rw [hby i hi]
    have := dgt_bd V (sizeL (dgt V) L - 1 - i)
    omega
  refine ⟨Or.inr ⟨?_, ?_⟩, ?_, by omega⟩
  · unfold isd
    rw [hall]
    have : dcD V L ≠ [] := fun e => by rw [e] at hsz; simp at hsz; omega
    simp [this]
  · rw [hby 0 hKp, Nat.sub_zero]
    intro e
    exact htop (by omega)
  · rw [(dV_lt hall).2, B_size, hsz]
    rw [numV_rev (K := sizeL (dgt V) L) (fun i hi => by rw [sb_by]; exact hby i hi) (Int.le_of_lt h0) hK _ (Nat.le_refl _)]
    simp
set_option maxHeartbeats 1000000 in
theorem rdec_zero (a : Option Addr) (n c : Nat) (x : Nat → Int) (w : World) (hn : n < 100000) (h : Num w a n c x) (hz : sizeL x n = 0) :
    Calls Tryz.prog 8 #[.slice a n c] w fun e w' => e = .returned (.string ⟨#[]⟩) ∧ Below w.heap.size w w' := by
  have ht := trim_any a n c x w (by omega) h
  rw [hz] at ht
  clear h
  go_enter Tryz.func8, Tryz.ntmps8
  go_wp2_with (go_at_call 18; refine ht.mono ?_; rintro e wA ⟨g0, cap0, rfl, hN0, hB0⟩; clear ht hN0)
  go_loopw [0, 3] (fun t0 t3 wr => t0 = .slice (some ⟨g0, 0, none⟩) 0 cap0 ∧ t3 = .slice none 0 0 ∧ Below w.heap.size w wr) (fun _ _ _ => 0)
  case atStart => exact ⟨rfl, rfl, hB0⟩
  case round =>
    obtain ⟨rfl, rfl, hB1⟩ := hrel
    go_wp2
    go_loopw [7] (fun t7 wr => t7 = .int .i64 0 ∧ Below w.heap.size w wr) (fun _ _ => 0)
    case atStart => exact ⟨rfl, hB1⟩
    case round =>
      obtain ⟨rfl, hB2⟩ := hrel
      go_wp2
      go_loopw [8, 50] (fun t8 t50 wr => t8 = .slice none 0 0 ∧ t50 = .int .i64 0 ∧ Below w.heap.size w wr) (fun _ _ _ => 0)
      case atStart => exact ⟨rfl, rfl, hB2⟩
      case round =>
        obtain ⟨rfl, rfl, hB3⟩ := hrel
        have hcv : (convert 48 9 (.slice none 0 0)).run Tryz.prog wr = .ok (.string ⟨#[]⟩) wr := by
          rw [run_convert_bytes_string wr 48 9 5 none 0 0 Tryz.underlying48 Tryz.underlying5 Tryz.underlying9]
          rfl
        go_wp2
        go_ret
        exact ⟨rfl, hB3⟩
end
section
def sgL (s : Bool) : List UInt8 := if s then [45] else []
attribute [local irreducible] W4
end
section
/-- a datum's cells -/
abbrev zd : Array Value := #[.int .i64 0, .bool false, .bool false, .int .i64 0, .int .u64 0, .int .u64 0, .int .u64 0, .int .u64 0]
theorem below_cellsD {n b : Nat} {a : World} (hb : n ≤ b) : ∀ (vs : List Value) (o : Nat) (W : World), Below n a W → Below n a (W.setCells b o vs)
  | [], _, _, h => h
  | v :: r, o, W, h => below_cellsD hb r (o + 1) _ (h.setCell hb v)
/-- a block that holds a datum -/
def D8 (g : Nat) (cs : Array Value) (w : World) : Prop := g < w.heap.size ∧ cs.size = 8 ∧ (∀ i, i < 8 → w.cell? ⟨g, i, none⟩ = cs[i]?) ∧ ∀ i, w.frozen? ⟨g, i, none⟩ = false
theorem D8.next {g : Nat} {cs : Array Value} {w w' : World} (h : D8 g cs w) (hb : Below w.heap.size w w') : D8 g cs w' :=
  ⟨Nat.lt_of_lt_of_le h.1 hb.size, h.2.1, fun i hi => (hb.cell (p := ⟨g, i, none⟩) h.1).trans (h.2.2.1 i hi), fun i => (hb.frozen (p := ⟨g, i, none⟩) h.1).trans (h.2.2.2 i)⟩
theorem D8.new (w : World) : D8 w.heap.size zd (w.alloc (.cells zd 71)) := by
  refine ⟨by simp, rfl, fun i hi => ?_, fun i => ?_⟩
  · rw [World.cell?_alloc_new]
  · simp [go_sem]
theorem D8.put {g : Nat} {cs cs' : Array Value} {w : World} (h : D8 g cs w) (hs : cs'.size = 8) : D8 g cs' (w.setCells g 0 cs'.toList) := by
  have hin := World.cell?_setCells_in g cs'.toList 0 w (fun j hj => by
    rw [Nat.zero_add, h.2.2.1 j (by simpa [hs] using hj), Array.getElem?_eq_getElem (by rw [h.2.1]; simpa [hs] using hj)]; rfl)
  refine ⟨Nat.lt_of_lt_of_le h.1 (below_cellsD (n := 0) (Nat.zero_le _) _ _ _ (Below.refl 0 w)).size, hs, fun i hi => ?_, fun i => ?_⟩
  · have := hin i (by simpa [hs] using hi)
    rw [Nat.zero_add] at this
    rw [this, Array.getElem?_eq_getElem (by rw [hs]; exact hi)]
    simp
  · rw [World.frozen?_setCells]; exact h.2.2.2 i
attribute [local irreducible] W4 Nt NT
section
variable {a : Act} {w : World} {K : Act → World → Prop} {Q : Exit → Act → World → Prop} {d p q : Nat} {ty : TypeId} {pos : String} {after : Array Edge} {gd : Option (Nat × Bool)}
end
end
section
attribute [local irreducible] W4 NT NV
/-- what Convert answers -/
def xiG (m t d : Int) (B : Nat) : Prop := goodD m B ∧ binN t ∧ knB d
instance (m t d : Int) (B : Nat) : Decidable (xiG m t d B) := inferInstanceAs (Decidable (_ ∧ _))
end
section
/-- what readbin's Read answers -/
structure RdbC (TT : World → Prop) : Prop where
  rd : ∀ n d l p W, binN n → knB d → cutP l = some p → l.length ≤ 3001 → TT W → Calls Tryz.prog 11 #[.int .i64 n, .int .i64 d, .string (B l)] W fun r w' => r = .returned (.tuple #[A4 (mkV n d p), .int .i64 (mkF n d p), .int .i64 0]) ∧ Below W.heap.size W w'
attribute [local irreducible] W4
end
/-- a number's decimal digits; of 0 none -/
def dcW (X : Nat) : List UInt8 := if X = 0 then [] else dcD X (bl X)
theorem dcW_facts (X : Nat) : gdD (dcW X) ∧ dV (dcW X) = X := by
  unfold dcW
  by_cases h0 : X = 0
  · rw [if_pos h0]
    exact ⟨Or.inl rfl, h0 ▸ rfl⟩
  · rw [if_neg h0]
    have hX : (0 : Int) < X := by omega
    have hL : (X : Int) < 10 ^ bl X := by
      have h1 := (bl_bd h0).2.1
      have h2 := Nat.pow_le_pow_left (show 2 ≤ 10 by decide) (bl X)
      have h3 : X < 10 ^ bl X := by omega
      exact_mod_cast h3
    obtain ⟨d1, d2, d3⟩ := dcD_facts hX hL
    exact ⟨d1, by omega⟩
section
/-- the document's Decimal, of any number that is not too long -/
theorem dec_nW {K X : Nat} {v : Value} {w : World} (hK : K < 100000) (hX : bl X ≤ 128000) (h : NV K X v w) : Calls Tryz.prog 8 #[v] w fun r w' => r = .returned (.string (B (dcW X))) ∧ Below w.heap.size w w' := by
  obtain ⟨g, n, c, z, rfl, hn, hN, hv⟩ := h
  have hs : sizeL z n ≤ 2000 := (size_bl hN.2.2.1 hv).2 hX
  unfold dcW
  by_cases h0 : X = 0
  · rw [if_pos h0]
    subst h0
    have hz : sizeL z n = 0 := by
      rcases Nat.eq_zero_or_pos (sizeL z n) with h | h
      · exact h
      · have := val_pos hN.2.2.1 _ h (sizeL_sizeL z n)
        rw [val_bare n, hv] at this
        omega
    exact rdec_zero _ n c z w (by omega) hN hz
  · rw [if_neg h0]
    have hX0 : (0 : Int) < X := by omega
    have hL : (X : Int) < 10 ^ bl X := by
      have h1 := (bl_bd h0).2.1
      have h2 := Nat.pow_le_pow_left (show 2 ≤ 10 by decide) (bl X)
      have h3 : X < 10 ^ bl X := by omega
      exact_mod_cast h3
    have hz : 0 < sizeL z n := by
      rcases Nat.eq_zero_or_pos (sizeL z n) with h | h
      · have := val_bare (x := z) n
        rw [h] at this
        rw [hv] at this
        have e : val z 0 = 0 := rfl
        omega
      · exact h
    refine (rdec_any _ n c z w (by omega) hN hs hz).mono fun e w' ⟨L, hL', he, hB⟩ => ⟨?_, hB⟩
    rw [hv] at hL' he
    rw [he, decL_rev hX0 hL', decL_more (Int.le_of_lt hX0) hL' hL, ← decL_rev hX0 hL]
    show _ = Ending.returned (.string (B (dcD X (bl X))))
    unfold dcD
    rw [B_of]
attribute [local irreducible] W4 NT NV
end
section
theorem own_len {N : Nat} (hN : N < 2 ^ 64) : (dcW N).length ≤ 20 := by
  obtain ⟨f1, f2⟩ := dcW_facts N
  by_cases h0 : dcW N = []
  · rw [h0]; decide
  · rcases f1 with f | ⟨f, g⟩
    · exact absurd f h0
    · have h := dV_ge (isd_all f) g h0
      rw [f2] at h
      by_cases hl : (dcW N).length ≤ 20
      · exact hl
      · have h3 : (10 : Nat) ^ 20 ≤ 10 ^ ((dcW N).length - 1) := Nat.pow_le_pow_right (by decide) (by omega)
        have h4 : (2 : Nat) ^ 64 < 10 ^ 20 := by decide
        omega
/-- the text of an integer is cut up -/
theorem own_cut (s : Bool) {N : Nat} (hN : N < 2 ^ 64) : cutP (sgL s ++ 48 :: dcW N) = some ⟨1, s, false, dcW N, 0⟩ ∧ (sgL s ++ 48 :: dcW N).length ≤ 3001 := by
  obtain ⟨f1, f2⟩ := dcW_facts N
  have hl := own_len hN
  have hs : (sgL s).length ≤ 1 := by cases s <;> decide
  have hlen : (sgL s ++ 48 :: dcW N).length ≤ 22 := by rw [List.length_append, List.length_cons]; omega
  refine ⟨?_, by omega⟩
  have ha : (48 :: dcW N).all dg = true := by
    rw [List.all_cons, gdD_all f1]
    decide
  obtain ⟨k1, k2, k3⟩ := fin_cut (48 :: dcW N) 0 ha (by simp) (by decide)
  have e0 : (48 :: dcW N) ++ exT 0 = 48 :: dcW N := by rw [show exT 0 = [] from rfl, List.append_nil]
  rw [e0] at k1 k2 k3
  rw [bar_cons, if_pos (by decide), gdD_bar f1] at k2
  unfold cutP
  rw [if_neg (by omega)]
  have hsg : gsgB (sgL s ++ 48 :: dcW N) = s ∧ sgR (sgL s ++ 48 :: dcW N) = 48 :: dcW N := sig_app s 48 _ ⟨by decide, by decide⟩
  rw [hsg.1, hsg.2]
  unfold bodP
  rw [if_pos k1, k2, k3]
theorem own_mk (n : Int) (s : Bool) {N : Nat} (hN : N < 2 ^ 64) : mkV n 0 ⟨1, s, false, dcW N, 0⟩ = rdV n 0 s N 1 0 := by
  have hl := own_len hN
  unfold mkV
  rw [if_pos rfl]
  dsimp only
  have hp : pwE (dcW N).length 0 = 0 := by unfold pwE; omega
  rw [hp, (dcW_facts N).2]
  unfold tN tD
  rw [show (0 : Int).toNat = 0 from rfl, show (-(0 : Int)).toNat = 0 from rfl, Nat.pow_zero, Nat.mul_one]
theorem own_rn {n : Int} (hb : binN n) (s : Bool) {N : Nat} (hN : N < 2 ^ 64) : rnE n 0 N 1 = 0 ∧ rnV n 0 s N 1 0 = rdV n 0 s N 1 0 := by
  have h : rnE n 0 N 1 = 0 := by
    have h1 : bl N ≤ 64 := bl_le.2 hN
    have h2 : bl 1 ≤ 64 := bl_le.2 (by decide)
    unfold rnE
    rw [if_pos ⟨hb, ⟨by decide, by decide⟩, by decide⟩, if_neg (by omega)]
  exact ⟨h, if_pos h⟩
theorem own_f3 (m : Int) (hm : m.natAbs < 2 ^ 64) : floatOfInt .f32 m = rdV 3 0 (decide (m < 0)) m.natAbs 1 0 := by
  show Ieee.single.nearest (decide (m < 0)) m.natAbs 0 = _
  by_cases k0 : m.natAbs = 0
  · rw [k0, fm_zero fmt_3, zero_pk (by decide)]
  · refine fm_near fmt_3 _ k0 ?_
    have hl := bl_log fmt_3 k0
    have hb := bl_le.2 hm
    unfold rX wiZ
    rw [ld_log fmt_3 k0, show leastN 3 = -149 by decide, show mostN 3 = 104 by decide, show fN 3 = 23 by decide]
    omega
theorem own_f4 (m : Int) (hm : m.natAbs < 2 ^ 64) : floatOfInt .f64 m = rdV 4 0 (decide (m < 0)) m.natAbs 1 0 := by
  show Ieee.double.nearest (decide (m < 0)) m.natAbs 0 = _
  by_cases k0 : m.natAbs = 0
  · rw [k0, fm_zero fmt_4, zero_pk (by decide)]
  · refine fm_near fmt_4 _ k0 ?_
    have hl := bl_log fmt_4 k0
    have hb := bl_le.2 hm
    unfold rX wiZ
    rw [ld_log fmt_4 k0, show leastN 4 = -1074 by decide, show mostN 4 = 971 by decide, show fN 4 = 52 by decide]
    omega
attribute [local irreducible] W4
section
variable (TT : World → Prop) (hTT : ∀ w w', TT w → Below w.heap.size w w' → TT w') (w : World) (hT : TT w)
  (c8 : ∀ W, TT W → Calls Tryz.prog 5 #[] W fun r w' => r = .returned (.bool true) ∧ Below W.heap.size W w')
  (N U V : Nat) (E : ByteArray) (F1 F2 F3 F4 : Int) (hN : N < 18446744073709551616) (hD : E.size ≤ 100) (hU : U < 2 ^ 32) (hV : V < 2 ^ 64)
  (c49 : ∀ W v, NV 1 N v W → Calls Tryz.prog 8 #[v] W fun r w' => r = .returned (.string E) ∧ Below W.heap.size W w')
include hTT hT c8 hN hD hU hV c49
set_option maxHeartbeats 4000000 in
theorem no21_p (hm : (N : Int) ≤ 9223372036854775807) (h3 : floatOfInt .f32 (N : Int) = U) (h4 : floatOfInt .f64 (N : Int) = V)
    (c31 : ∀ W, TT W → Calls Tryz.prog 6 #[.int .i64 3, .int .i64 0, .int .i64 (N : Int)] W fun r w' => r = .returned (.tuple #[A4 U, .int .i64 F1, .int .i64 0]) ∧ Below W.heap.size W w')
    (c41 : ∀ W, TT W → Calls Tryz.prog 6 #[.int .i64 4, .int .i64 0, .int .i64 (N : Int)] W fun r w' => r = .returned (.tuple #[A4 V, .int .i64 F2, .int .i64 0]) ∧ Below W.heap.size W w')
    (c33 : ∀ W, TT W → Calls Tryz.prog 11 #[.int .i64 3, .int .i64 0, .string ({ data := #[] } ++ { data := #[48] } ++ E)] W fun r w' => r = .returned (.tuple #[A4 U, .int .i64 F3, .int .i64 0]) ∧ Below W.heap.size W w')
    (c43 : ∀ W, TT W → Calls Tryz.prog 11 #[.int .i64 4, .int .i64 0, .string ({ data := #[] } ++ { data := #[48] } ++ E)] W fun r w' => r = .returned (.tuple #[A4 V, .int .i64 F4, .int .i64 0]) ∧ Below W.heap.size W w') :
    Calls Tryz.prog 4 #[.int .i64 (N : Int)] w fun r w' => r = .returned (.bool true) ∧ Below w.heap.size w w' := by
  have hsm := cell_set_map
  have e1 := eq24 (U : Int) 0 0 0 (U : Int) 0 0 0
  rw [decide_eq_true ⟨rfl, rfl, rfl, rfl⟩] at e1
  have e2 := eq24 (V : Int) 0 0 0 (V : Int) 0 0 0
  rw [decide_eq_true ⟨rfl, rfl, rfl, rfl⟩] at e2
  have h0 : ¬ (N : Int) < 0 := by omega
  have hw1 : IntKind.u64.wrap (N : Int) = (N : Int) := by rw [IntKind.wrap_u64]; omega
  have hw2 : IntKind.u64.wrap (U : Int) = (U : Int) := by rw [IntKind.wrap_u64]; omega
  have x1 := run_b32 U
  have x2 := run_b64 V
  rw [A4_sm21 (show U < 18446744073709551616 by omega)] at c31 c33
  rw [A4_sm21 (show V < 18446744073709551616 by omega)] at c41 c43
  go_enter Tryz.func4, Tryz.ntmps4
  go_wp2_with (first
    | (go_at_call 5; refine (c8 _ (hTT _ _ hT bgo)).mono ?_; rintro r w1 ⟨rfl, hb1⟩; obtain ⟨hc1, hf1⟩ := bcell hb1; have hA1 := bnext (w0 := w) bgo hb1; have hs1 := hA1.size; clear hb1)
    | (go_at_call 8; refine (c49 _ _ (nv_one (by simp) rfl hN)).mono ?_; rintro r w2 ⟨rfl, hb2⟩; obtain ⟨hc2, hf2⟩ := bcell hb2; have hA2 := bnext (w0 := w) bgo hb2; have hs2 := hA2.size; clear hb2)
    | (have := hA3; go_at_call 6; refine (c41 _ (hTT _ _ hT bgo)).mono ?_; rintro r w4 ⟨rfl, hb4⟩; obtain ⟨hc4, hf4⟩ := bcell hb4; have hz4_0 : w2.heap.size < w4.heap.size := lt_below hb4 ltg; have hl4_0 := Nat.le_of_lt hz4_0; have hz4_1 : w2.heap.size + 1 < w4.heap.size := lt_below hb4 ltg; have hl4_1 := Nat.le_of_lt hz4_1; have hz4_2 : w3.heap.size < w4.heap.size := lt_below hb4 ltg; have hl4_2 := Nat.le_of_lt hz4_2; have hA4 := bnext (w0 := w) bgo hb4; have hs4 := hA4.size; clear hb4)
    | (go_at_call 6; refine (c31 _ (hTT _ _ hT bgo)).mono ?_; rintro r w3 ⟨rfl, hb3⟩; obtain ⟨hc3, hf3⟩ := bcell hb3; have hz3_0 : w2.heap.size < w3.heap.size := lt_below hb3 ltg; have hl3_0 := Nat.le_of_lt hz3_0; have hz3_1 : w2.heap.size + 1 < w3.heap.size := lt_below hb3 ltg; have hl3_1 := Nat.le_of_lt hz3_1; have hA3 := bnext (w0 := w) bgo hb3; have hs3 := hA3.size; clear hb3)
    | (have := hA5; go_at_call 11; refine (c43 _ (hTT _ _ hT bgo)).mono ?_; rintro r w6 ⟨rfl, hb6⟩; obtain ⟨hc6, hf6⟩ := bcell hb6; have hz6_0 : w2.heap.size < w6.heap.size := lt_below hb6 ltg; have hl6_0 := Nat.le_of_lt hz6_0; have hz6_1 : w2.heap.size + 1 < w6.heap.size := lt_below hb6 ltg; have hl6_1 := Nat.le_of_lt hz6_1; have hz6_2 : w3.heap.size < w6.heap.size := lt_below hb6 ltg; have hl6_2 := Nat.le_of_lt hz6_2; have hz6_3 : w4.heap.size < w6.heap.size := lt_below hb6 ltg; have hl6_3 := Nat.le_of_lt hz6_3; have hz6_4 : w5.heap.size < w6.heap.size := lt_below hb6 ltg; have hl6_4 := Nat.le_of_lt hz6_4; have hA6 := bnext (w0 := w) bgo hb6; have hs6 := hA6.size; clear hb6)
    | (go_at_call 11; refine (c33 _ (hTT _ _ hT bgo)).mono ?_; rintro r w5 ⟨rfl, hb5⟩; obtain ⟨hc5, hf5⟩ := bcell hb5; have hz5_0 : w2.heap.size < w5.heap.size := lt_below hb5 ltg; have hl5_0 := Nat.le_of_lt hz5_0; have hz5_1 : w2.heap.size + 1 < w5.heap.size := lt_below hb5 ltg; have hl5_1 := Nat.le_of_lt hz5_1; have hz5_2 : w3.heap.size < w5.heap.size := lt_below hb5 ltg; have hl5_2 := Nat.le_of_lt hz5_2; have hz5_3 : w4.heap.size < w5.heap.size := lt_below hb5 ltg; have hl5_3 := Nat.le_of_lt hz5_3; have hA5 := bnext (w0 := w) bgo hb5; have hs5 := hA5.size; clear hb5)
    | fail)
  go_ret
  exact ⟨by first | rfl | simp, bgo⟩
set_option maxHeartbeats 4000000 in
theorem no21_m (hm : (N : Int) ≤ 9223372036854775808) (hN0 : 0 < N) (h3 : floatOfInt .f32 (-(N : Int)) = U) (h4 : floatOfInt .f64 (-(N : Int)) = V)
    (c31 : ∀ W, TT W → Calls Tryz.prog 6 #[.int .i64 3, .int .i64 0, .int .i64 (-(N : Int))] W fun r w' => r = .returned (.tuple #[A4 U, .int .i64 F1, .int .i64 0]) ∧ Below W.heap.size W w')
    (c41 : ∀ W, TT W → Calls Tryz.prog 6 #[.int .i64 4, .int .i64 0, .int .i64 (-(N : Int))] W fun r w' => r = .returned (.tuple #[A4 V, .int .i64 F2, .int .i64 0]) ∧ Below W.heap.size W w')
    (c33 : ∀ W, TT W → Calls Tryz.prog 11 #[.int .i64 3, .int .i64 0, .string ({ data := #[45] } ++ { data := #[48] } ++ E)] W fun r w' => r = .returned (.tuple #[A4 U, .int .i64 F3, .int .i64 0]) ∧ Below W.heap.size W w')
    (c43 : ∀ W, TT W → Calls Tryz.prog 11 #[.int .i64 4, .int .i64 0, .string ({ data := #[45] } ++ { data := #[48] } ++ E)] W fun r w' => r = .returned (.tuple #[A4 V, .int .i64 F4, .int .i64 0]) ∧ Below W.heap.size W w') :
    Calls Tryz.prog 4 #[.int .i64 (-(N : Int))] w fun r w' => r = .returned (.bool true) ∧ Below w.heap.size w w' := by
  have hsm := cell_set_map
  have e1 := eq24 (U : Int) 0 0 0 (U : Int) 0 0 0
  rw [decide_eq_true ⟨rfl, rfl, rfl, rfl⟩] at e1
  have e2 := eq24 (V : Int) 0 0 0 (V : Int) 0 0 0
  rw [decide_eq_true ⟨rfl, rfl, rfl, rfl⟩] at e2
  have h0 : -(N : Int) < 0 := by omega
  obtain ⟨Z, hZ⟩ : ∃ Z : Int, Z = 18446744073709551616 - (N : Int) := ⟨_, rfl⟩
  have hw1 : IntKind.u64.wrap (-(N : Int)) = Z := by rw [IntKind.wrap_u64]; omega
  have hw3 : IntKind.u64.wrap (-Z) = (N : Int) := by rw [IntKind.wrap_u64]; omega
  clear hZ
  have hw2 : IntKind.u64.wrap (U : Int) = (U : Int) := by rw [IntKind.wrap_u64]; omega
  have x1 := run_b32 U
  have x2 := run_b64 V
  rw [A4_sm21 (show U < 18446744073709551616 by omega)] at c31 c33
  rw [A4_sm21 (show V < 18446744073709551616 by omega)] at c41 c43
  go_enter Tryz.func4, Tryz.ntmps4
  go_wp2_with (first
    | (go_at_call 5; refine (c8 _ (hTT _ _ hT bgo)).mono ?_; rintro r w1 ⟨rfl, hb1⟩; obtain ⟨hc1, hf1⟩ := bcell hb1; have hA1 := bnext (w0 := w) bgo hb1; have hs1 := hA1.size; clear hb1)
    | (go_at_call 8; refine (c49 _ _ (nv_one (by simp) rfl hN)).mono ?_; rintro r w2 ⟨rfl, hb2⟩; obtain ⟨hc2, hf2⟩ := bcell hb2; have hA2 := bnext (w0 := w) bgo hb2; have hs2 := hA2.size; clear hb2)
    | (have := hA3; go_at_call 6; refine (c41 _ (hTT _ _ hT bgo)).mono ?_; rintro r w4 ⟨rfl, hb4⟩; obtain ⟨hc4, hf4⟩ := bcell hb4; have hz4_0 : w2.heap.size < w4.heap.size := lt_below hb4 ltg; have hl4_0 := Nat.le_of_lt hz4_0; have hz4_1 : w2.heap.size + 1 < w4.heap.size := lt_below hb4 ltg; have hl4_1 := Nat.le_of_lt hz4_1; have hz4_2 : w3.heap.size < w4.heap.size := lt_below hb4 ltg; have hl4_2 := Nat.le_of_lt hz4_2; have hA4 := bnext (w0 := w) bgo hb4; have hs4 := hA4.size; clear hb4)
    | (go_at_call 6; refine (c31 _ (hTT _ _ hT bgo)).mono ?_; rintro r w3 ⟨rfl, hb3⟩; obtain ⟨hc3, hf3⟩ := bcell hb3; have hz3_0 : w2.heap.size < w3.heap.size := lt_below hb3 ltg; have hl3_0 := Nat.le_of_lt hz3_0; have hz3_1 : w2.heap.size + 1 < w3.heap.size := lt_below hb3 ltg; have hl3_1 := Nat.le_of_lt hz3_1; have hA3 := bnext (w0 := w) bgo hb3; have hs3 := hA3.size; clear hb3)
    | (have := hA5; go_at_call 11; refine (c43 _ (hTT _ _ hT bgo)).mono ?_; rintro r w6 ⟨rfl, hb6⟩; obtain ⟨hc6, hf6⟩ := bcell hb6; have hz6_0 : w2.heap.size < w6.heap.size := lt_below hb6 ltg; have hl6_0 := Nat.le_of_lt hz6_0; have hz6_1 : w2.heap.size + 1 < w6.heap.size := lt_below hb6 ltg; have hl6_1 := Nat.le_of_lt hz6_1; have hz6_2 : w3.heap.size < w6.heap.size := lt_below hb6 ltg; have hl6_2 := Nat.le_of_lt hz6_2; have hz6_3 : w4.heap.size < w6.heap.size := lt_below hb6 ltg; have hl6_3 := Nat.le_of_lt hz6_3; have hz6_4 : w5.heap.size < w6.heap.size := lt_below hb6 ltg; have hl6_4 := Nat.le_of_lt hz6_4; have hA6 := bnext (w0 := w) bgo hb6; have hs6 := hA6.size; clear hb6)
    | (go_at_call 11; refine (c33 _ (hTT _ _ hT bgo)).mono ?_; rintro r w5 ⟨rfl, hb5⟩; obtain ⟨hc5, hf5⟩ := bcell hb5; have hz5_0 : w2.heap.size < w5.heap.size := lt_below hb5 ltg; have hl5_0 := Nat.le_of_lt hz5_0; have hz5_1 : w2.heap.size + 1 < w5.heap.size := lt_below hb5 ltg; have hl5_1 := Nat.le_of_lt hz5_1; have hz5_2 : w3.heap.size < w5.heap.size := lt_below hb5 ltg; have hl5_2 := Nat.le_of_lt hz5_2; have hz5_3 : w4.heap.size < w5.heap.size := lt_below hb5 ltg; have hl5_3 := Nat.le_of_lt hz5_3; have hA5 := bnext (w0 := w) bgo hb5; have hs5 := hA5.size; clear hb5)
    | fail)
  go_ret
  exact ⟨by first | rfl | simp, bgo⟩
end
theorem rd_good {n : Int} (hb : binN n) (s : Bool) {N : Nat} (hN : N < 2 ^ 64) : goodN n (rdV n 0 s N 1 0) := by
  exact cv_good 0 hb ⟨1, s, false, 0, N⟩
theorem own_text (s : Bool) (D : List UInt8) : B (sgL s ++ 48 :: D) = (if s then ({ data := #[45] } : ByteArray) else { data := #[] }) ++ { data := #[48] } ++ B D := by
  have e1 : (if s then ({ data := #[45] } : ByteArray) else { data := #[] }) = B (sgL s) := by cases s <;> rfl
  rw [e1, show ({ data := #[48] } : ByteArray) = B [48] from rfl, B_app, B_app, List.append_assoc]
  rfl
theorem own21_v {TT : World → Prop} (h : NatN TT) (hI : NatI TT) (hR : RdbC TT) (m : Int) (w : World) (hT : TT w) (hm : -9223372036854775808 ≤ m ∧ m ≤ 9223372036854775807) :
    Calls Tryz.prog 4 #[.int .i64 m] w fun r w' => r = .returned (.bool true) ∧ Below w.heap.size w w' := by
  have c8 := fun W hW => awake21 h W hW
  have hN : m.natAbs < 2 ^ 64 := by omega
  have c49 : ∀ W v, NV 1 m.natAbs v W → Calls Tryz.prog 8 #[v] W fun r w' => r = .returned (.string (B (dcW m.natAbs))) ∧ Below W.heap.size W w' := fun W v hv => dec_nW (by decide) (Nat.le_trans (bl_le.2 hN) (by decide)) hv
  have c31 := fun W hW => hI.fi 3 0 m W hm hW
  have c41 := fun W hW => hI.fi 4 0 m W hm hW
  rw [(own_rn (n := 3) (by decide) (decide (m < 0)) hN).1, (own_rn (n := 3) (by decide) (decide (m < 0)) hN).2] at c31
  rw [(own_rn (n := 4) (by decide) (decide (m < 0)) hN).1, (own_rn (n := 4) (by decide) (decide (m < 0)) hN).2] at c41
  obtain ⟨t1, t2⟩ := own_cut (decide (m < 0)) hN
  have c33 := fun W hW => hR.rd 3 0 _ _ W (by decide) ⟨by decide, by decide⟩ t1 t2 hW
  have c43 := fun W hW => hR.rd 4 0 _ _ W (by decide) ⟨by decide, by decide⟩ t1 t2 hW
  rw [own_mk 3 _ hN, own_text] at c33
  rw [own_mk 4 _ hN, own_text] at c43
  have h3 := own_f3 m hN
  have h4 := own_f4 m hN
  have hU := (rd_good (n := 3) (by decide) (decide (m < 0)) hN).2
  have hV := (rd_good (n := 4) (by decide) (decide (m < 0)) hN).2
  have hsz : (B (dcW m.natAbs)).size ≤ 100 := by rw [B_size]; have := own_len hN; omega
  by_cases h0 : m < 0
  · obtain ⟨N, rfl⟩ : ∃ N : Nat, m = -(N : Int) := ⟨m.natAbs, by omega⟩
    rw [show (-(N : Int)).natAbs = N by omega] at *
    rw [decide_eq_true h0] at *
    exact no21_m TT h.next w hT c8 N _ _ _ _ _ _ _ hN hsz hU hV c49 (by omega) (by omega) h3 h4 c31 c41 c33 c43
  · obtain ⟨N, rfl⟩ : ∃ N : Nat, m = (N : Int) := ⟨m.natAbs, by omega⟩
    rw [show ((N : Int)).natAbs = N by omega] at *
    rw [decide_eq_false h0] at *
    exact no21_p TT h.next w hT c8 N _ _ _ _ _ _ _ hN hsz hU hV c49 (by omega) h3 h4 c31 c41 c33 c43
end
def TTn (W : World) : Prop := Tab W ∧ Tb10 W
theorem natNb : NatN TTn := ⟨fun _ _ h hb => ⟨h.1.go hb, h.2.next hb⟩, fun b W hb _ hT => nnw_v b W hT.1 hb⟩
theorem natIb : NatI TTn := ⟨fun n d m W hm hT => nfi_v n d m W hT.1 hm⟩
theorem rdbN : RdbC TTn := ⟨fun n d l p W hb hk hc hl hT => read_v hb hk hc hl W hT.1 hT.2⟩
theorem nativeOwn_any (m : Int) (w : World) (hT : Tab w) (hT10 : Tb10 w) (hm : -9223372036854775808 ≤ m ∧ m ≤ 9223372036854775807) :
    Calls Tryz.prog 4 #[.int .i64 m] w fun r w' => r = .returned (.bool true) ∧ Below w.heap.size w w' :=
  own21_v natNb natIb rdbN m w ⟨hT, hT10⟩ hm
end Go.Proofs.YtpemdcnneabbfaaGreatDoor
