/-
  Texts that the proof leans on, joined: Vn, Vq, Zn.
-/
import Derived.Test.YtjjaamdgochilaaDoorJ33
import Derived.Test.YtjjaamdgochilaaDoorJ1
import Derived.Test.YtjjaamdgochilaaDoorJ35
import Derived.Test.YtjjaamdgochilaaDoorJ36
import Derived.Test.YtjjaamdgochilaaDoorJ38
import Derived.Test.YtjjaamdgochilaaDoorJ39
import Derived.Test.YtjjaamdgochilaaDoorJ40
import Derived.Test.YtjjaamdgochilaaDoorJ41
import Derived.Test.YtjjaamdgochilaaDoorJ42
set_option linter.unusedVariables false
set_option linter.unusedSectionVars false
set_option linter.unusedSimpArgs false
set_option maxRecDepth 20000
namespace Go.Proofs.YtjjaamdgochilaaDoor
open Go.RowKit
theorem DV_same (c x : Int) (s g : Bool) (k : Nat) (w : World) : Sem.run Tryd.prog (Op.equalIn 10000 27 (.agg #[.int .i64 c, .bool s, .bool g, .int .i64 x, .int .u64 (W4 k 0), .int .u64 (W4 k 1), .int .u64 (W4 k 2), .int .u64 (W4 k 3)]) (.agg #[.int .i64 c, .bool s, .bool g, .int .i64 x, .int .u64 (W4 k 0), .int .u64 (W4 k 1), .int .u64 (W4 k 2), .int .u64 (W4 k 3)])) w = .ok true w := by
  have := eq27 c c s s g g x x (W4 k 0) (W4 k 1) (W4 k 2) (W4 k 3) (W4 k 0) (W4 k 1) (W4 k 2) (W4 k 3) w
  rw [decide_eq_true ⟨rfl, rfl, rfl, rfl, rfl, rfl, rfl, rfl⟩] at this
  exact this
theorem A4_same14 (k : Nat) (w : World) : Sem.run Tryd.prog (Op.equalIn 10000 24 (.agg #[.int .u64 (W4 k 0), .int .u64 (W4 k 1), .int .u64 (W4 k 2), .int .u64 (W4 k 3)]) (.agg #[.int .u64 (W4 k 0), .int .u64 (W4 k 1), .int .u64 (W4 k 2), .int .u64 (W4 k 3)])) w = .ok true w := by
  have := eq24 (W4 k 0) (W4 k 1) (W4 k 2) (W4 k 3) (W4 k 0) (W4 k 1) (W4 k 2) (W4 k 3) w
  rw [decide_eq_true ⟨rfl, rfl, rfl, rfl⟩] at this
  exact this
/-- two data are one another just if their fields are -/
theorem dat_words {a b : Dat} (ha : a.k < 2 ^ 256) (hb : b.k < 2 ^ 256) : decide (a.c = b.c ∧ a.s = b.s ∧ a.g = b.g ∧ a.x = b.x ∧ W4 a.k 0 = W4 b.k 0 ∧ W4 a.k 1 = W4 b.k 1 ∧ W4 a.k 2 = W4 b.k 2 ∧ W4 a.k 3 = W4 b.k 3) = true ↔ a = b := by
  rw [decide_eq_true_eq]
  constructor
  · rintro ⟨h1, h2, h3, h4, h5⟩
    have hk : a.k = b.k := by
      have := eq_words ha hb
      rw [decide_eq_true h5] at this
      exact of_decide_eq_true this.symm
    obtain ⟨c, s, g, x, k⟩ := a
    obtain ⟨c', s', g', x', k'⟩ := b
    simp only at h1 h2 h3 h4 hk
    subst h1 h2 h3 h4 hk
    rfl
  · rintro rfl
    exact ⟨rfl, rfl, rfl, rfl, rfl, rfl, rfl, rfl⟩
attribute [local irreducible] W4
section
variable (TT : World → Prop) (hTT : ∀ w w', TT w → Below w.heap.size w w' → TT w')
include hTT
set_option maxHeartbeats 1000000 in
theorem awake14 (w : World) (hT : TT w) (dP : ∀ n (d : Dat), d.k < 2 ^ 256 → ∀ W, TT W → Calls Tryd.prog 12 #[.int .i64 n, d.v] W fun r w' => r = .returned (.tuple #[A4 (vPV n d), .int .i64 (vPE n d)]) ∧ Below W.heap.size W w') :
    Calls Tryd.prog 9 #[] w fun r w' => r = .returned (.bool true) ∧ Below w.heap.size w w' := by
  have e1 : ∀ i, W4 1 i = if i = 0 then 1 else 0 := fun i => by
    unfold W4
    by_cases h : i = 0
    · subst h; rfl
    · rw [if_neg h, Nat.div_eq_of_lt (Nat.one_lt_two_pow (by omega))]; rfl
  have e2 : vPV 10 ⟨1, false, false, 0, 1⟩ = 575668225 := by decide +kernel
  have e3 : vPE 10 ⟨1, false, false, 0, 1⟩ = 0 := by decide +kernel
  have c := fun W => dP 10 ⟨1, false, false, 0, 1⟩ (show (1 : Nat) < 2 ^ 256 by decide) W
  rw [e2, e3] at c
  have hv : (Dat.mk 1 false false 0 1).v = .agg #[.int .i64 1, .bool false, .bool false, .int .i64 0, .int .u64 1, .int .u64 0, .int .u64 0, .int .u64 0] := by
    unfold Dat.v DV; simp only [e1]; rfl
  have hr : A4 575668225 = .agg #[.int .u64 575668225, .int .u64 0, .int .u64 0, .int .u64 0] := by
    unfold A4; rw [show W4 575668225 0 = 575668225 by unfold W4; decide +kernel, show W4 575668225 1 = 0 by unfold W4; decide +kernel, show W4 575668225 2 = 0 by unfold W4; decide +kernel, show W4 575668225 3 = 0 by unfold W4; decide +kernel]
  rw [hv, hr] at c
  have hq := eq24 575668225 0 0 0 575668225 0 0 0
  simp only [and_self, decide_true] at hq
  go_enter Tryd.func9, Tryd.ntmps9
  go_wp2_with (go_at_call 12; refine (c _ (hTT _ _ hT bgo)).mono ?_; rintro r w1 ⟨rfl, hb1⟩; obtain ⟨hc1, hf1⟩ := bcell hb1; have hA1 := bnext (w0 := w) bgo hb1; have hs1 := hA1.size; clear hb1)
  go_ret
  exact ⟨by first | rfl | simp, bgo⟩
set_option maxHeartbeats 2000000 in
theorem unpacks_w (n : Int) (B : Nat) (w : World) (hT : TT w) (c x : Int) (s g : Bool) (k : Nat) (R : Bool) (E : Int)
    (c9 : ∀ W, TT W → Calls Tryd.prog 9 #[] W fun r w' => r = .returned (.bool true) ∧ Below W.heap.size W w')
    (c10 : ∀ W, TT W → Calls Tryd.prog 10 #[.int .i64 n, A4 B] W fun r w' => r = .returned (.tuple #[DV c s g x k, .bool R, .int .i64 E]) ∧ Below W.heap.size W w')
    (c11 : ∀ W, Calls Tryd.prog 11 #[.int .i64 n, A4 B] W fun r w' => r = .returned (.tuple #[DV c s g x k, .bool R, .int .i64 E]) ∧ Below W.heap.size W w') :
    Calls Tryd.prog 3 #[.int .i64 n, A4 B] w fun r w' => r = .returned (.bool true) ∧ Below w.heap.size w w' := by
  have hQ := DV_same c x s g k
  have hsm := cell_set_map
  unfold DV at *
  go_enter Tryd.func3, Tryd.ntmps3
  go_wp2_with (first
    | (go_at_call 9; refine (c9 _ (hTT _ _ hT bgo)).mono ?_; rintro r w1 ⟨rfl, hb1⟩; obtain ⟨hc1, hf1⟩ := bcell hb1; have hz1_0 : w.heap.size < w1.heap.size := lt_below hb1 ltg; have hl1_0 := Nat.le_of_lt hz1_0; have hA1 := bnext (w0 := w) bgo hb1; have hs1 := hA1.size; clear hb1)
    | (go_at_call 10; refine (c10 _ (hTT _ _ hT bgo)).mono ?_; rintro r w2 ⟨rfl, hb2⟩; obtain ⟨hc2, hf2⟩ := bcell hb2; have hz2_0 : w.heap.size < w2.heap.size := lt_below hb2 ltg; have hl2_0 := Nat.le_of_lt hz2_0; have hA2 := bnext (w0 := w) bgo hb2; have hs2 := hA2.size; clear hb2)
    | (go_at_call 11; refine (c11 _).mono ?_; rintro r w3 ⟨rfl, hb3⟩; obtain ⟨hc3, hf3⟩ := bcell hb3; have hz3_0 : w.heap.size < w3.heap.size := lt_below hb3 ltg; have hl3_0 := Nat.le_of_lt hz3_0; have hz3_1 : w2.heap.size < w3.heap.size := lt_below hb3 ltg; have hl3_1 := Nat.le_of_lt hz3_1; have hA3 := bnext (w0 := w) bgo hb3; have hs3 := hA3.size; clear hb3))
  go_ret
  exact ⟨by first | rfl | simp, bgo⟩
set_option maxHeartbeats 2000000 in
theorem packs_w (n : Int) (w : World) (hT : TT w) (c x : Int) (s g : Bool) (k P : Nat) (E : Int)
    (c9 : ∀ W, TT W → Calls Tryd.prog 9 #[] W fun r w' => r = .returned (.bool true) ∧ Below W.heap.size W w')
    (c10 : ∀ W, TT W → Calls Tryd.prog 12 #[.int .i64 n, DV c s g x k] W fun r w' => r = .returned (.tuple #[A4 P, .int .i64 E]) ∧ Below W.heap.size W w')
    (c11 : ∀ W, Calls Tryd.prog 13 #[.int .i64 n, DV c s g x k] W fun r w' => r = .returned (.tuple #[A4 P, .int .i64 E]) ∧ Below W.heap.size W w') :
    Calls Tryd.prog 4 #[.int .i64 n, DV c s g x k] w fun r w' => r = .returned (.bool true) ∧ Below w.heap.size w w' := by
  have hQ := A4_same14 P
  have hsm := cell_set_map
  unfold DV A4 at *
  go_enter Tryd.func4, Tryd.ntmps4
  go_wp2_with (first
    | (go_at_call 9; refine (c9 _ (hTT _ _ hT bgo)).mono ?_; rintro r w1 ⟨rfl, hb1⟩; obtain ⟨hc1, hf1⟩ := bcell hb1; have hz1_0 : w.heap.size < w1.heap.size := lt_below hb1 ltg; have hl1_0 := Nat.le_of_lt hz1_0; have hA1 := bnext (w0 := w) bgo hb1; have hs1 := hA1.size; clear hb1)
    | (go_at_call 12; refine (c10 _ (hTT _ _ hT bgo)).mono ?_; rintro r w2 ⟨rfl, hb2⟩; obtain ⟨hc2, hf2⟩ := bcell hb2; have hz2_0 : w.heap.size < w2.heap.size := lt_below hb2 ltg; have hl2_0 := Nat.le_of_lt hz2_0; have hA2 := bnext (w0 := w) bgo hb2; have hs2 := hA2.size; clear hb2)
    | (go_at_call 13; refine (c11 _).mono ?_; rintro r w3 ⟨rfl, hb3⟩; obtain ⟨hc3, hf3⟩ := bcell hb3; have hz3_0 : w.heap.size < w3.heap.size := lt_below hb3 ltg; have hl3_0 := Nat.le_of_lt hz3_0; have hz3_1 : w2.heap.size < w3.heap.size := lt_below hb3 ltg; have hl3_1 := Nat.le_of_lt hz3_1; have hA3 := bnext (w0 := w) bgo hb3; have hs3 := hA3.size; clear hb3))
  go_ret
  exact ⟨by first | rfl | simp, bgo⟩
set_option maxHeartbeats 4000000 in
theorem apart_w (n : Int) (w : World) (hT : TT w) (c x c' x' : Int) (s g s' g' : Bool) (k k' P P' : Nat) (E E' : Int) (R : Bool)
    (c9 : ∀ W, TT W → Calls Tryd.prog 9 #[] W fun r w' => r = .returned (.bool true) ∧ Below W.heap.size W w')
    (c10 : ∀ W, TT W → Calls Tryd.prog 12 #[.int .i64 n, DV c s g x k] W fun r w' => r = .returned (.tuple #[A4 P, .int .i64 E]) ∧ Below W.heap.size W w')
    (c11 : ∀ W, TT W → Calls Tryd.prog 12 #[.int .i64 n, DV c' s' g' x' k'] W fun r w' => r = .returned (.tuple #[A4 P', .int .i64 E']) ∧ Below W.heap.size W w')
    (he : decide (W4 P 0 = W4 P' 0 ∧ W4 P 1 = W4 P' 1 ∧ W4 P 2 = W4 P' 2 ∧ W4 P 3 = W4 P' 3) = R)
    (hw : (E != 0) = true ∨ (E' != 0) = true ∨ decide (c = c' ∧ s = s' ∧ g = g' ∧ x = x' ∧ W4 k 0 = W4 k' 0 ∧ W4 k 1 = W4 k' 1 ∧ W4 k 2 = W4 k' 2 ∧ W4 k 3 = W4 k' 3) = R) :
    Calls Tryd.prog 7 #[.int .i64 n, DV c s g x k, DV c' s' g' x' k'] w fun r w' => r = .returned (.bool true) ∧ Below w.heap.size w w' := by
  have h24 := eq24 (W4 P 0) (W4 P 1) (W4 P 2) (W4 P 3) (W4 P' 0) (W4 P' 1) (W4 P' 2) (W4 P' 3)
  rw [he] at h24
  have h27 := eq27 c c' s s' g g' x x' (W4 k 0) (W4 k 1) (W4 k 2) (W4 k 3) (W4 k' 0) (W4 k' 1) (W4 k' 2) (W4 k' 3)
  generalize decide (c = c' ∧ s = s' ∧ g = g' ∧ x = x' ∧ W4 k 0 = W4 k' 0 ∧ W4 k 1 = W4 k' 1 ∧ W4 k 2 = W4 k' 2 ∧ W4 k 3 = W4 k' 3) = R' at *
  clear he
  have hsm := cell_set_map
  unfold DV A4 at *
  have q0 : w.heap.size < w.heap.size + 1 + 1 := by omega
  by_cases hE : (E != 0) = true
  · clear hw
    go_enter Tryd.func7, Tryd.ntmps7
    go_wp2_with (first
      | (go_at_call 9; refine (c9 _ (hTT _ _ hT bgo)).mono ?_; rintro r w1 ⟨rfl, hb1⟩; obtain ⟨hc1, hf1⟩ := bcell hb1; have hz1_0 : w.heap.size < w1.heap.size := lt_below hb1 ltg; have hl1_0 := Nat.le_of_lt hz1_0; have hz1_1 : w.heap.size + 1 < w1.heap.size := lt_below hb1 ltg; have hl1_1 := Nat.le_of_lt hz1_1; have hA1 := bnext (w0 := w) bgo hb1; have hs1 := hA1.size; clear hb1)
      | (go_at_call 12; refine (c10 _ (hTT _ _ hT bgo)).mono ?_; rintro r w2 ⟨rfl, hb2⟩; clear c10; obtain ⟨hc2, hf2⟩ := bcell hb2; have hz2_0 : w.heap.size < w2.heap.size := lt_below hb2 ltg; have hl2_0 := Nat.le_of_lt hz2_0; have hz2_1 : w.heap.size + 1 < w2.heap.size := lt_below hb2 ltg; have hl2_1 := Nat.le_of_lt hz2_1; have hA2 := bnext (w0 := w) bgo hb2; have hs2 := hA2.size; clear hb2)
      | (go_at_call 12; refine (c11 _ (hTT _ _ hT bgo)).mono ?_; rintro r w3 ⟨rfl, hb3⟩; obtain ⟨hc3, hf3⟩ := bcell hb3; have hz3_0 : w.heap.size < w3.heap.size := lt_below hb3 ltg; have hl3_0 := Nat.le_of_lt hz3_0; have hz3_1 : w.heap.size + 1 < w3.heap.size := lt_below hb3 ltg; have hl3_1 := Nat.le_of_lt hz3_1; have hz3_2 : w2.heap.size < w3.heap.size := lt_below hb3 ltg; have hl3_2 := Nat.le_of_lt hz3_2; have hA3 := bnext (w0 := w) bgo hb3; have hs3 := hA3.size; clear hb3))
    go_quiet (fail)
    go_wp2
    go_ret
    exact ⟨by first | rfl | simp, below_drewD bgo _⟩
  · rw [Bool.not_eq_true] at hE
    by_cases hE' : (E' != 0) = true
    · clear hw
      go_enter Tryd.func7, Tryd.ntmps7
      go_wp2_with (first
        | (go_at_call 9; refine (c9 _ (hTT _ _ hT bgo)).mono ?_; rintro r w1 ⟨rfl, hb1⟩; obtain ⟨hc1, hf1⟩ := bcell hb1; have hz1_0 : w.heap.size < w1.heap.size := lt_below hb1 ltg; have hl1_0 := Nat.le_of_lt hz1_0; have hz1_1 : w.heap.size + 1 < w1.heap.size := lt_below hb1 ltg; have hl1_1 := Nat.le_of_lt hz1_1; have hA1 := bnext (w0 := w) bgo hb1; have hs1 := hA1.size; clear hb1)
        | (go_at_call 12; refine (c10 _ (hTT _ _ hT bgo)).mono ?_; rintro r w2 ⟨rfl, hb2⟩; clear c10; obtain ⟨hc2, hf2⟩ := bcell hb2; have hz2_0 : w.heap.size < w2.heap.size := lt_below hb2 ltg; have hl2_0 := Nat.le_of_lt hz2_0; have hz2_1 : w.heap.size + 1 < w2.heap.size := lt_below hb2 ltg; have hl2_1 := Nat.le_of_lt hz2_1; have hA2 := bnext (w0 := w) bgo hb2; have hs2 := hA2.size; clear hb2)
        | (go_at_call 12; refine (c11 _ (hTT _ _ hT bgo)).mono ?_; rintro r w3 ⟨rfl, hb3⟩; obtain ⟨hc3, hf3⟩ := bcell hb3; have hz3_0 : w.heap.size < w3.heap.size := lt_below hb3 ltg; have hl3_0 := Nat.le_of_lt hz3_0; have hz3_1 : w.heap.size + 1 < w3.heap.size := lt_below hb3 ltg; have hl3_1 := Nat.le_of_lt hz3_1; have hz3_2 : w2.heap.size < w3.heap.size := lt_below hb3 ltg; have hl3_2 := Nat.le_of_lt hz3_2; have hA3 := bnext (w0 := w) bgo hb3; have hs3 := hA3.size; clear hb3))
      go_quiet (fail)
      go_wp2
      go_ret
      exact ⟨by first | rfl | simp, below_drewD bgo _⟩
    · rw [Bool.not_eq_true] at hE'
      obtain rfl : R' = R := by
        rcases hw with q | q | q
        · rw [hE] at q; cases q
        · rw [hE'] at q; cases q
        · exact q
      clear hw
      go_enter Tryd.func7, Tryd.ntmps7
      go_wp2_with (first
        | (go_at_call 9; refine (c9 _ (hTT _ _ hT bgo)).mono ?_; rintro r w1 ⟨rfl, hb1⟩; obtain ⟨hc1, hf1⟩ := bcell hb1; have hz1_0 : w.heap.size < w1.heap.size := lt_below hb1 ltg; have hl1_0 := Nat.le_of_lt hz1_0; have hz1_1 : w.heap.size + 1 < w1.heap.size := lt_below hb1 ltg; have hl1_1 := Nat.le_of_lt hz1_1; have hA1 := bnext (w0 := w) bgo hb1; have hs1 := hA1.size; clear hb1)
        | (go_at_call 12; refine (c10 _ (hTT _ _ hT bgo)).mono ?_; rintro r w2 ⟨rfl, hb2⟩; clear c10; obtain ⟨hc2, hf2⟩ := bcell hb2; have hz2_0 : w.heap.size < w2.heap.size := lt_below hb2 ltg; have hl2_0 := Nat.le_of_lt hz2_0; have hz2_1 : w.heap.size + 1 < w2.heap.size := lt_below hb2 ltg; have hl2_1 := Nat.le_of_lt hz2_1; have hA2 := bnext (w0 := w) bgo hb2; have hs2 := hA2.size; clear hb2)
        | (go_at_call 12; refine (c11 _ (hTT _ _ hT bgo)).mono ?_; rintro r w3 ⟨rfl, hb3⟩; obtain ⟨hc3, hf3⟩ := bcell hb3; have hz3_0 : w.heap.size < w3.heap.size := lt_below hb3 ltg; have hl3_0 := Nat.le_of_lt hz3_0; have hz3_1 : w.heap.size + 1 < w3.heap.size := lt_below hb3 ltg; have hl3_1 := Nat.le_of_lt hz3_1; have hz3_2 : w2.heap.size < w3.heap.size := lt_below hb3 ltg; have hl3_2 := Nat.le_of_lt hz3_2; have hA3 := bnext (w0 := w) bgo hb3; have hs3 := hA3.size; clear hb3))
      go_quiet (fail)
      go_wp2
      go_ret
      exact ⟨by first | rfl | simp, below_drewD bgo _⟩
end
/-- what the package's calls answer, in a class of worlds -/
structure DecC (TT : World → Prop) : Prop where
  next : ∀ w w', TT w → Below w.heap.size w w' → TT w'
  unp : ∀ n B, B < 2 ^ 256 → ∀ W, TT W → Calls Tryd.prog 10 #[.int .i64 n, A4 B] W fun r w' => r = .returned (.tuple #[(vUD n B).v, .bool (vUC n B), .int .i64 (vUE n B)]) ∧ Below W.heap.size W w'
  pck : ∀ n (d : Dat), d.k < 2 ^ 256 → ∀ W, TT W → Calls Tryd.prog 12 #[.int .i64 n, d.v] W fun r w' => r = .returned (.tuple #[A4 (vPV n d), .int .i64 (vPE n d)]) ∧ Below W.heap.size W w'
theorem DecC.awk {TT : World → Prop} (h : DecC TT) (W : World) (hT : TT W) : Calls Tryd.prog 9 #[] W fun r w' => r = .returned (.bool true) ∧ Below W.heap.size W w' := awake14 TT h.next W hT h.pck
theorem unpacks_v {TT : World → Prop} (h : DecC TT) (n : Int) (B : Nat) (w : World) (hT : TT w) (hB : B < 2 ^ 256) :
    Calls Tryd.prog 3 #[.int .i64 n, A4 B] w fun r w' => r = .returned (.bool true) ∧ Below w.heap.size w w' :=
  unpacks_w TT h.next n B w hT _ _ _ _ _ _ _ h.awk (h.unp n B hB) (fun W => runp14 n B W hB)
theorem packs_v {TT : World → Prop} (h : DecC TT) (n : Int) (d : Dat) (w : World) (hT : TT w) (hk : d.k < 2 ^ 256) :
    Calls Tryd.prog 4 #[.int .i64 n, d.v] w fun r w' => r = .returned (.bool true) ∧ Below w.heap.size w w' :=
  packs_w TT h.next n w hT _ _ _ _ _ _ _ h.awk (h.pck n d hk) (fun W => rpk14 n d W hk)
/-- two data of a format have two patterns -/
theorem vP_inj {f : DF} (h : f.ok) {a b : Dat} (ha : vI f a) (hb : vI f b) (e : vP f a = vP f b) : a = b := by
  rw [← vM_vP h ha, ← vM_vP h hb, e]
theorem apart_v {TT : World → Prop} (h : DecC TT) (n : Int) (a b : Dat) (w : World) (hT : TT w) (ha : a.k < 2 ^ 256) (hb : b.k < 2 ^ 256) :
    Calls Tryd.prog 7 #[.int .i64 n, a.v, b.v] w fun r w' => r = .returned (.bool true) ∧ Below w.heap.size w w' := by
  refine apart_w TT h.next n w hT _ _ _ _ _ _ _ _ _ _ _ _ _ _ _ h.awk (h.pck n a ha) (h.pck n b hb) rfl ?_
  rw [eq_words (vPV_256 n a) (vPV_256 n b)]
  by_cases hd : decN n
  · by_cases ia : vI (fD n) a
    · by_cases ib : vI (fD n) b
      · refine Or.inr (Or.inr ?_)
        rw [Bool.eq_iff_iff, dat_words ha hb, decide_eq_true_eq]
        unfold vPV
        rw [if_pos ⟨hd, ia⟩, if_pos ⟨hd, ib⟩]
        exact ⟨fun e => by rw [e], fun e => vP_inj (fD_ok n) ia ib e⟩
      · refine Or.inr (Or.inl ?_)
        unfold vPE
        rw [if_pos hd, if_neg ib]; rfl
    · refine Or.inl ?_
      unfold vPE
      rw [if_pos hd, if_neg ia]; rfl
  · refine Or.inl ?_
    unfold vPE
    rw [if_neg hd]; rfl
end Go.Proofs.YtjjaamdgochilaaDoor

namespace Go.Proofs.YtjjaamdgochilaaDoor
open Go.RowKit
attribute [local irreducible] W4
section
variable (TT : World → Prop) (hTT : ∀ w w', TT w → Below w.heap.size w w' → TT w') (n : Int) (w : World) (hT : TT w)
  (c9 : ∀ W, TT W → Calls Tryd.prog 9 #[] W fun r w' => r = .returned (.bool true) ∧ Below W.heap.size W w')
include hTT hT c9
set_option maxHeartbeats 4000000 in
theorem canon_n (B V : Nat) (E : Int) (hE : (E != 0) = true)
    (c14 : ∀ W, TT W → Calls Tryd.prog 14 #[.int .i64 n, A4 B] W fun r w' => r = .returned (.tuple #[A4 V, .int .i64 E]) ∧ Below W.heap.size W w')
    (c15 : ∀ W, Calls Tryd.prog 15 #[.int .i64 n, A4 B] W fun r w' => r = .returned (.tuple #[A4 V, .int .i64 E]) ∧ Below W.heap.size W w') :
    Calls Tryd.prog 6 #[.int .i64 n, A4 B] w fun r w' => r = .returned (.bool true) ∧ Below w.heap.size w w' := by
  have hQ := A4_same14 V
  have hsm := cell_set_map
  unfold A4 at *
  go_enter Tryd.func6, Tryd.ntmps6
  go_wp2_with (first
    | (go_at_call 9; refine (c9 _ (hTT _ _ hT bgo)).mono ?_; rintro r w1 ⟨rfl, hb1⟩; obtain ⟨hc1, hf1⟩ := bcell hb1; have hz1_0 : w.heap.size < w1.heap.size := lt_below hb1 ltg; have hl1_0 := Nat.le_of_lt hz1_0; have hA1 := bnext (w0 := w) bgo hb1; have hs1 := hA1.size; clear hb1)
    | (go_at_call 14; refine (c14 _ (hTT _ _ hT bgo)).mono ?_; rintro r w2 ⟨rfl, hb2⟩; obtain ⟨hc2, hf2⟩ := bcell hb2; have hz2_0 : w.heap.size < w2.heap.size := lt_below hb2 ltg; have hl2_0 := Nat.le_of_lt hz2_0; have hA2 := bnext (w0 := w) bgo hb2; have hs2 := hA2.size; clear hb2)
    | (go_at_call 15; refine (c15 _).mono ?_; rintro r w3 ⟨rfl, hb3⟩; obtain ⟨hc3, hf3⟩ := bcell hb3; have hz3_0 : w.heap.size < w3.heap.size := lt_below hb3 ltg; have hl3_0 := Nat.le_of_lt hz3_0; have hz3_1 : w2.heap.size < w3.heap.size := lt_below hb3 ltg; have hl3_1 := Nat.le_of_lt hz3_1; have hA3 := bnext (w0 := w) bgo hb3; have hs3 := hA3.size; clear hb3))
  go_ret
  exact ⟨by first | rfl | simp, bgo⟩
set_option maxHeartbeats 4000000 in
theorem canon_y (B V : Nat) (c x : Int) (s g : Bool) (k : Nat) (R : Bool) (E1 E2 E3 : Int)
    (c14 : ∀ W, TT W → Calls Tryd.prog 14 #[.int .i64 n, A4 B] W fun r w' => r = .returned (.tuple #[A4 V, .int .i64 0]) ∧ Below W.heap.size W w')
    (c15 : ∀ W, Calls Tryd.prog 15 #[.int .i64 n, A4 B] W fun r w' => r = .returned (.tuple #[A4 V, .int .i64 0]) ∧ Below W.heap.size W w')
    (u1 : ∀ W, TT W → Calls Tryd.prog 10 #[.int .i64 n, A4 B] W fun r w' => r = .returned (.tuple #[DV c s g x k, .bool R, .int .i64 E1]) ∧ Below W.heap.size W w')
    (u2 : ∀ W, TT W → Calls Tryd.prog 10 #[.int .i64 n, A4 V] W fun r w' => r = .returned (.tuple #[DV c s g x k, .bool true, .int .i64 E2]) ∧ Below W.heap.size W w')
    (d14 : ∀ W, TT W → Calls Tryd.prog 14 #[.int .i64 n, A4 V] W fun r w' => r = .returned (.tuple #[A4 V, .int .i64 E3]) ∧ Below W.heap.size W w') :
    Calls Tryd.prog 6 #[.int .i64 n, A4 B] w fun r w' => r = .returned (.bool true) ∧ Below w.heap.size w w' := by
  have hQ := A4_same14 V
  have hD := DV_same c x s g k
  have hsm := cell_set_map
  unfold DV A4 at *
  go_enter Tryd.func6, Tryd.ntmps6
  go_wp2_with (first
    | (go_at_call 9; refine (c9 _ (hTT _ _ hT bgo)).mono ?_; rintro r w1 ⟨rfl, hb1⟩; obtain ⟨hc1, hf1⟩ := bcell hb1; have hz1_0 : w.heap.size < w1.heap.size := lt_below hb1 ltg; have hl1_0 := Nat.le_of_lt hz1_0; have hA1 := bnext (w0 := w) bgo hb1; have hs1 := hA1.size; clear hb1)
    | (go_at_call 14; refine (c14 _ (hTT _ _ hT bgo)).mono ?_; rintro r w2 ⟨rfl, hb2⟩; clear c14; obtain ⟨hc2, hf2⟩ := bcell hb2; have hz2_0 : w.heap.size < w2.heap.size := lt_below hb2 ltg; have hl2_0 := Nat.le_of_lt hz2_0; have hA2 := bnext (w0 := w) bgo hb2; have hs2 := hA2.size; clear hb2)
    | (go_at_call 15; refine (c15 _).mono ?_; rintro r w3 ⟨rfl, hb3⟩; obtain ⟨hc3, hf3⟩ := bcell hb3; have hz3_0 : w.heap.size < w3.heap.size := lt_below hb3 ltg; have hl3_0 := Nat.le_of_lt hz3_0; have hz3_1 : w2.heap.size < w3.heap.size := lt_below hb3 ltg; have hl3_1 := Nat.le_of_lt hz3_1; have hA3 := bnext (w0 := w) bgo hb3; have hs3 := hA3.size; clear hb3)
    | (go_at_call 10; refine (u1 _ (hTT _ _ hT bgo)).mono ?_; rintro r w4 ⟨rfl, hb4⟩; clear u1; obtain ⟨hc4, hf4⟩ := bcell hb4; have hz4_0 : w.heap.size < w4.heap.size := lt_below hb4 ltg; have hl4_0 := Nat.le_of_lt hz4_0; have hz4_1 : w2.heap.size < w4.heap.size := lt_below hb4 ltg; have hl4_1 := Nat.le_of_lt hz4_1; have hz4_2 : w3.heap.size < w4.heap.size := lt_below hb4 ltg; have hl4_2 := Nat.le_of_lt hz4_2; have hA4 := bnext (w0 := w) bgo hb4; have hs4 := hA4.size; clear hb4)
    | (go_at_call 10; refine (u2 _ (hTT _ _ hT bgo)).mono ?_; rintro r w5 ⟨rfl, hb5⟩; clear u2; obtain ⟨hc5, hf5⟩ := bcell hb5; have hz5_0 : w.heap.size < w5.heap.size := lt_below hb5 ltg; have hl5_0 := Nat.le_of_lt hz5_0; have hz5_1 : w2.heap.size < w5.heap.size := lt_below hb5 ltg; have hl5_1 := Nat.le_of_lt hz5_1; have hz5_2 : w3.heap.size < w5.heap.size := lt_below hb5 ltg; have hl5_2 := Nat.le_of_lt hz5_2; have hz5_3 : w4.heap.size < w5.heap.size := lt_below hb5 ltg; have hl5_3 := Nat.le_of_lt hz5_3; have hA5 := bnext (w0 := w) bgo hb5; have hs5 := hA5.size; clear hb5)
    | (go_at_call 14; refine (d14 _ (hTT _ _ hT bgo)).mono ?_; rintro r w6 ⟨rfl, hb6⟩; obtain ⟨hc6, hf6⟩ := bcell hb6; have hz6_0 : w.heap.size < w6.heap.size := lt_below hb6 ltg; have hl6_0 := Nat.le_of_lt hz6_0; have hz6_1 : w2.heap.size < w6.heap.size := lt_below hb6 ltg; have hl6_1 := Nat.le_of_lt hz6_1; have hz6_2 : w3.heap.size < w6.heap.size := lt_below hb6 ltg; have hl6_2 := Nat.le_of_lt hz6_2; have hz6_3 : w4.heap.size < w6.heap.size := lt_below hb6 ltg; have hl6_3 := Nat.le_of_lt hz6_3; have hz6_4 : w5.heap.size < w6.heap.size := lt_below hb6 ltg; have hl6_4 := Nat.le_of_lt hz6_4; have hA6 := bnext (w0 := w) bgo hb6; have hs6 := hA6.size; clear hb6))
  go_ret
  exact ⟨by first | rfl | simp, bgo⟩
variable (B : Nat) (c x : Int) (s g : Bool) (k P : Nat) (E : Int) (c' x' : Int) (s' g' : Bool) (k' : Nat) (R' : Bool)
  (c12 : ∀ W, TT W → Calls Tryd.prog 12 #[.int .i64 n, DV c s g x k] W fun r w' => r = .returned (.tuple #[A4 P, .int .i64 E]) ∧ Below W.heap.size W w')
include c12
set_option maxHeartbeats 4000000 in
theorem back_nn (hE : (E == 0) = false)
    (u2 : ∀ W, TT W → Calls Tryd.prog 10 #[.int .i64 n, A4 B] W fun r w' => r = .returned (.tuple #[.agg #[.int .i64 0, .bool false, .bool false, .int .i64 0, .int .u64 0, .int .u64 0, .int .u64 0, .int .u64 0], .bool false, .int .i64 1]) ∧ Below W.heap.size W w') :
    Calls Tryd.prog 5 #[.int .i64 n, DV c s g x k, A4 B] w fun r w' => r = .returned (.bool true) ∧ Below w.heap.size w w' := by
  have hZ := eq27 0 0 false false false false 0 0 0 0 0 0 0 0 0 0
  simp only [and_self, decide_true] at hZ
  have hsm := cell_set_map
  have q0 : w.heap.size < w.heap.size + 1 + 1 := by omega
  unfold DV A4 at *
  go_enter Tryd.func5, Tryd.ntmps5
  go_wp2_with (first
    | (go_at_call 9; refine (c9 _ (hTT _ _ hT bgo)).mono ?_; rintro r w1 ⟨rfl, hb1⟩; obtain ⟨hc1, hf1⟩ := bcell hb1; have hz1_0 : w.heap.size < w1.heap.size := lt_below hb1 ltg; have hl1_0 := Nat.le_of_lt hz1_0; have hz1_1 : w.heap.size + 1 < w1.heap.size := lt_below hb1 ltg; have hl1_1 := Nat.le_of_lt hz1_1; have hA1 := bnext (w0 := w) bgo hb1; have hs1 := hA1.size; clear hb1)
    | (go_at_call 12; refine (c12 _ (hTT _ _ hT bgo)).mono ?_; rintro r w2 ⟨rfl, hb2⟩; clear c12; obtain ⟨hc2, hf2⟩ := bcell hb2; have hz2_0 : w.heap.size < w2.heap.size := lt_below hb2 ltg; have hl2_0 := Nat.le_of_lt hz2_0; have hz2_1 : w.heap.size + 1 < w2.heap.size := lt_below hb2 ltg; have hl2_1 := Nat.le_of_lt hz2_1; have hA2 := bnext (w0 := w) bgo hb2; have hs2 := hA2.size; clear hb2)
    | (go_at_call 10; refine (u2 _ (hTT _ _ hT bgo)).mono ?_; rintro r w4 ⟨rfl, hb4⟩; clear u2; obtain ⟨hc4, hf4⟩ := bcell hb4; have hz4_0 : w.heap.size < w4.heap.size := lt_below hb4 ltg; have hl4_0 := Nat.le_of_lt hz4_0; have hz4_1 : w.heap.size + 1 < w4.heap.size := lt_below hb4 ltg; have hl4_1 := Nat.le_of_lt hz4_1; have hz4_2 : w2.heap.size < w4.heap.size := lt_below hb4 ltg; have hl4_2 := Nat.le_of_lt hz4_2; have hA4 := bnext (w0 := w) bgo hb4; have hs4 := hA4.size; clear hb4))
  go_ret
  exact ⟨by first | rfl | simp, bgo⟩
set_option maxHeartbeats 4000000 in
theorem back_ny (hE : (E == 0) = false) (Q : Nat)
    (u2 : ∀ W, TT W → Calls Tryd.prog 10 #[.int .i64 n, A4 B] W fun r w' => r = .returned (.tuple #[DV c' s' g' x' k', .bool R', .int .i64 0]) ∧ Below W.heap.size W w')
    (p2 : ∀ W, TT W → Calls Tryd.prog 12 #[.int .i64 n, DV c' s' g' x' k'] W fun r w' => r = .returned (.tuple #[A4 Q, .int .i64 0]) ∧ Below W.heap.size W w')
    (he : decide (W4 Q 0 = W4 B 0 ∧ W4 Q 1 = W4 B 1 ∧ W4 Q 2 = W4 B 2 ∧ W4 Q 3 = W4 B 3) = R') :
    Calls Tryd.prog 5 #[.int .i64 n, DV c s g x k, A4 B] w fun r w' => r = .returned (.bool true) ∧ Below w.heap.size w w' := by
  have h24 := eq24 (W4 Q 0) (W4 Q 1) (W4 Q 2) (W4 Q 3) (W4 B 0) (W4 B 1) (W4 B 2) (W4 B 3)
  rw [he] at h24
  clear he
  have hsm := cell_set_map
  have q0 : w.heap.size < w.heap.size + 1 + 1 := by omega
  unfold DV A4 at *
  go_enter Tryd.func5, Tryd.ntmps5
  go_wp2_with (first
    | (go_at_call 9; refine (c9 _ (hTT _ _ hT bgo)).mono ?_; rintro r w1 ⟨rfl, hb1⟩; obtain ⟨hc1, hf1⟩ := bcell hb1; have hz1_0 : w.heap.size < w1.heap.size := lt_below hb1 ltg; have hl1_0 := Nat.le_of_lt hz1_0; have hz1_1 : w.heap.size + 1 < w1.heap.size := lt_below hb1 ltg; have hl1_1 := Nat.le_of_lt hz1_1; have hA1 := bnext (w0 := w) bgo hb1; have hs1 := hA1.size; clear hb1)
    | (go_at_call 12; refine (c12 _ (hTT _ _ hT bgo)).mono ?_; rintro r w2 ⟨rfl, hb2⟩; clear c12; obtain ⟨hc2, hf2⟩ := bcell hb2; have hz2_0 : w.heap.size < w2.heap.size := lt_below hb2 ltg; have hl2_0 := Nat.le_of_lt hz2_0; have hz2_1 : w.heap.size + 1 < w2.heap.size := lt_below hb2 ltg; have hl2_1 := Nat.le_of_lt hz2_1; have hA2 := bnext (w0 := w) bgo hb2; have hs2 := hA2.size; clear hb2)
    | (go_at_call 10; refine (u2 _ (hTT _ _ hT bgo)).mono ?_; rintro r w4 ⟨rfl, hb4⟩; clear u2; obtain ⟨hc4, hf4⟩ := bcell hb4; have hz4_0 : w.heap.size < w4.heap.size := lt_below hb4 ltg; have hl4_0 := Nat.le_of_lt hz4_0; have hz4_1 : w.heap.size + 1 < w4.heap.size := lt_below hb4 ltg; have hl4_1 := Nat.le_of_lt hz4_1; have hz4_2 : w2.heap.size < w4.heap.size := lt_below hb4 ltg; have hl4_2 := Nat.le_of_lt hz4_2; have hA4 := bnext (w0 := w) bgo hb4; have hs4 := hA4.size; clear hb4)
    | (go_at_call 12; refine (p2 _ (hTT _ _ hT bgo)).mono ?_; rintro r w5 ⟨rfl, hb5⟩; obtain ⟨hc5, hf5⟩ := bcell hb5; have hz5_0 : w.heap.size < w5.heap.size := lt_below hb5 ltg; have hl5_0 := Nat.le_of_lt hz5_0; have hz5_1 : w.heap.size + 1 < w5.heap.size := lt_below hb5 ltg; have hl5_1 := Nat.le_of_lt hz5_1; have hz5_2 : w2.heap.size < w5.heap.size := lt_below hb5 ltg; have hl5_2 := Nat.le_of_lt hz5_2; have hz5_3 : w4.heap.size < w5.heap.size := lt_below hb5 ltg; have hl5_3 := Nat.le_of_lt hz5_3; have hA5 := bnext (w0 := w) bgo hb5; have hs5 := hA5.size; clear hb5))
  go_ret
  exact ⟨by first | rfl | simp, bgo⟩
variable (hE0 : E = 0)
  (u1 : ∀ W, TT W → Calls Tryd.prog 10 #[.int .i64 n, A4 P] W fun r w' => r = .returned (.tuple #[DV c s g x k, .bool true, .int .i64 0]) ∧ Below W.heap.size W w')
include hE0 u1
set_option maxHeartbeats 4000000 in
theorem back_yn
    (u2 : ∀ W, TT W → Calls Tryd.prog 10 #[.int .i64 n, A4 B] W fun r w' => r = .returned (.tuple #[.agg #[.int .i64 0, .bool false, .bool false, .int .i64 0, .int .u64 0, .int .u64 0, .int .u64 0, .int .u64 0], .bool false, .int .i64 1]) ∧ Below W.heap.size W w') :
    Calls Tryd.prog 5 #[.int .i64 n, DV c s g x k, A4 B] w fun r w' => r = .returned (.bool true) ∧ Below w.heap.size w w' := by
  subst hE0
  have hZ := eq27 0 0 false false false false 0 0 0 0 0 0 0 0 0 0
  simp only [and_self, decide_true] at hZ
  have hD := DV_same c x s g k
  have hsm := cell_set_map
  have q0 : w.heap.size < w.heap.size + 1 + 1 := by omega
  unfold DV A4 at *
  go_enter Tryd.func5, Tryd.ntmps5
  go_wp2_with (first
    | (go_at_call 9; refine (c9 _ (hTT _ _ hT bgo)).mono ?_; rintro r w1 ⟨rfl, hb1⟩; obtain ⟨hc1, hf1⟩ := bcell hb1; have hz1_0 : w.heap.size < w1.heap.size := lt_below hb1 ltg; have hl1_0 := Nat.le_of_lt hz1_0; have hz1_1 : w.heap.size + 1 < w1.heap.size := lt_below hb1 ltg; have hl1_1 := Nat.le_of_lt hz1_1; have hA1 := bnext (w0 := w) bgo hb1; have hs1 := hA1.size; clear hb1)
    | (go_at_call 12; refine (c12 _ (hTT _ _ hT bgo)).mono ?_; rintro r w2 ⟨rfl, hb2⟩; clear c12; obtain ⟨hc2, hf2⟩ := bcell hb2; have hz2_0 : w.heap.size < w2.heap.size := lt_below hb2 ltg; have hl2_0 := Nat.le_of_lt hz2_0; have hz2_1 : w.heap.size + 1 < w2.heap.size := lt_below hb2 ltg; have hl2_1 := Nat.le_of_lt hz2_1; have hA2 := bnext (w0 := w) bgo hb2; have hs2 := hA2.size; clear hb2)
    | (go_at_call 10; refine (u1 _ (hTT _ _ hT bgo)).mono ?_; rintro r w3 ⟨rfl, hb3⟩; clear u1; obtain ⟨hc3, hf3⟩ := bcell hb3; have hz3_0 : w.heap.size < w3.heap.size := lt_below hb3 ltg; have hl3_0 := Nat.le_of_lt hz3_0; have hz3_1 : w.heap.size + 1 < w3.heap.size := lt_below hb3 ltg; have hl3_1 := Nat.le_of_lt hz3_1; have hz3_2 : w2.heap.size < w3.heap.size := lt_below hb3 ltg; have hl3_2 := Nat.le_of_lt hz3_2; have hA3 := bnext (w0 := w) bgo hb3; have hs3 := hA3.size; clear hb3)
    | (go_at_call 10; refine (u2 _ (hTT _ _ hT bgo)).mono ?_; rintro r w4 ⟨rfl, hb4⟩; clear u2; obtain ⟨hc4, hf4⟩ := bcell hb4; have hz4_0 : w.heap.size < w4.heap.size := lt_below hb4 ltg; have hl4_0 := Nat.le_of_lt hz4_0; have hz4_1 : w.heap.size + 1 < w4.heap.size := lt_below hb4 ltg; have hl4_1 := Nat.le_of_lt hz4_1; have hz4_2 : w2.heap.size < w4.heap.size := lt_below hb4 ltg; have hl4_2 := Nat.le_of_lt hz4_2; have hz4_3 : w3.heap.size < w4.heap.size := lt_below hb4 ltg; have hl4_3 := Nat.le_of_lt hz4_3; have hA4 := bnext (w0 := w) bgo hb4; have hs4 := hA4.size; clear hb4))
  go_ret
  exact ⟨by first | rfl | simp, bgo⟩
set_option maxHeartbeats 4000000 in
theorem back_yy (Q : Nat)
    (u2 : ∀ W, TT W → Calls Tryd.prog 10 #[.int .i64 n, A4 B] W fun r w' => r = .returned (.tuple #[DV c' s' g' x' k', .bool R', .int .i64 0]) ∧ Below W.heap.size W w')
    (p2 : ∀ W, TT W → Calls Tryd.prog 12 #[.int .i64 n, DV c' s' g' x' k'] W fun r w' => r = .returned (.tuple #[A4 Q, .int .i64 0]) ∧ Below W.heap.size W w')
    (he : decide (W4 Q 0 = W4 B 0 ∧ W4 Q 1 = W4 B 1 ∧ W4 Q 2 = W4 B 2 ∧ W4 Q 3 = W4 B 3) = R') :
    Calls Tryd.prog 5 #[.int .i64 n, DV c s g x k, A4 B] w fun r w' => r = .returned (.bool true) ∧ Below w.heap.size w w' := by
  subst hE0
  have h24 := eq24 (W4 Q 0) (W4 Q 1) (W4 Q 2) (W4 Q 3) (W4 B 0) (W4 B 1) (W4 B 2) (W4 B 3)
  rw [he] at h24
  clear he
  have hD := DV_same c x s g k
  have hsm := cell_set_map
  have q0 : w.heap.size < w.heap.size + 1 + 1 := by omega
  unfold DV A4 at *
  go_enter Tryd.func5, Tryd.ntmps5
  go_wp2_with (first
    | (go_at_call 9; refine (c9 _ (hTT _ _ hT bgo)).mono ?_; rintro r w1 ⟨rfl, hb1⟩; obtain ⟨hc1, hf1⟩ := bcell hb1; have hz1_0 : w.heap.size < w1.heap.size := lt_below hb1 ltg; have hl1_0 := Nat.le_of_lt hz1_0; have hz1_1 : w.heap.size + 1 < w1.heap.size := lt_below hb1 ltg; have hl1_1 := Nat.le_of_lt hz1_1; have hA1 := bnext (w0 := w) bgo hb1; have hs1 := hA1.size; clear hb1)
    | (go_at_call 12; refine (c12 _ (hTT _ _ hT bgo)).mono ?_; rintro r w2 ⟨rfl, hb2⟩; clear c12; obtain ⟨hc2, hf2⟩ := bcell hb2; have hz2_0 : w.heap.size < w2.heap.size := lt_below hb2 ltg; have hl2_0 := Nat.le_of_lt hz2_0; have hz2_1 : w.heap.size + 1 < w2.heap.size := lt_below hb2 ltg; have hl2_1 := Nat.le_of_lt hz2_1; have hA2 := bnext (w0 := w) bgo hb2; have hs2 := hA2.size; clear hb2)
    | (go_at_call 10; refine (u1 _ (hTT _ _ hT bgo)).mono ?_; rintro r w3 ⟨rfl, hb3⟩; clear u1; obtain ⟨hc3, hf3⟩ := bcell hb3; have hz3_0 : w.heap.size < w3.heap.size := lt_below hb3 ltg; have hl3_0 := Nat.le_of_lt hz3_0; have hz3_1 : w.heap.size + 1 < w3.heap.size := lt_below hb3 ltg; have hl3_1 := Nat.le_of_lt hz3_1; have hz3_2 : w2.heap.size < w3.heap.size := lt_below hb3 ltg; have hl3_2 := Nat.le_of_lt hz3_2; have hA3 := bnext (w0 := w) bgo hb3; have hs3 := hA3.size; clear hb3)
    | (go_at_call 10; refine (u2 _ (hTT _ _ hT bgo)).mono ?_; rintro r w4 ⟨rfl, hb4⟩; clear u2; obtain ⟨hc4, hf4⟩ := bcell hb4; have hz4_0 : w.heap.size < w4.heap.size := lt_below hb4 ltg; have hl4_0 := Nat.le_of_lt hz4_0; have hz4_1 : w.heap.size + 1 < w4.heap.size := lt_below hb4 ltg; have hl4_1 := Nat.le_of_lt hz4_1; have hz4_2 : w2.heap.size < w4.heap.size := lt_below hb4 ltg; have hl4_2 := Nat.le_of_lt hz4_2; have hz4_3 : w3.heap.size < w4.heap.size := lt_below hb4 ltg; have hl4_3 := Nat.le_of_lt hz4_3; have hA4 := bnext (w0 := w) bgo hb4; have hs4 := hA4.size; clear hb4)
    | (go_at_call 12; refine (p2 _ (hTT _ _ hT bgo)).mono ?_; rintro r w5 ⟨rfl, hb5⟩; obtain ⟨hc5, hf5⟩ := bcell hb5; have hz5_0 : w.heap.size < w5.heap.size := lt_below hb5 ltg; have hl5_0 := Nat.le_of_lt hz5_0; have hz5_1 : w.heap.size + 1 < w5.heap.size := lt_below hb5 ltg; have hl5_1 := Nat.le_of_lt hz5_1; have hz5_2 : w2.heap.size < w5.heap.size := lt_below hb5 ltg; have hl5_2 := Nat.le_of_lt hz5_2; have hz5_3 : w3.heap.size < w5.heap.size := lt_below hb5 ltg; have hl5_3 := Nat.le_of_lt hz5_3; have hz5_4 : w4.heap.size < w5.heap.size := lt_below hb5 ltg; have hl5_4 := Nat.le_of_lt hz5_4; have hA5 := bnext (w0 := w) bgo hb5; have hs5 := hA5.size; clear hb5))
  go_ret
  exact ⟨by first | rfl | simp, bgo⟩
end
/-- Unpack's answers of a good pattern and of another one -/
theorem vU_good {n : Int} {B : Nat} (h : goodD n B) : vUD n B = vM (fD n) B ∧ vUC n B = decide (vP (fD n) (vM (fD n) B) = B) ∧ vUE n B = 0 := by
  unfold vUD vUC vUE
  exact ⟨if_pos h, decide_eq_decide.2 ⟨fun q => q.2, fun q => ⟨h, q⟩⟩, if_pos h⟩
theorem vU_bad {n : Int} {B : Nat} (h : ¬ goodD n B) : vUD n B = ⟨0, false, false, 0, 0⟩ ∧ vUC n B = false ∧ vUE n B = 1 := by
  unfold vUD vUC vUE
  exact ⟨if_neg h, decide_eq_false fun q => h q.1, if_neg h⟩
theorem vP_good {n : Int} (h : decN n) {d : Dat} (hi : vI (fD n) d) : goodD n (vP (fD n) d) := ⟨h, vP_lt (fD_ok n) hi⟩
theorem canon_v {TT : World → Prop} (h : DecC TT) (dC : ∀ n B, B < 2 ^ 256 → ∀ W, TT W → Calls Tryd.prog 14 #[.int .i64 n, A4 B] W fun r w' => r = .returned (.tuple #[A4 (vCV n B), .int .i64 (vUE n B)]) ∧ Below W.heap.size W w')
    (n : Int) (B : Nat) (w : World) (hT : TT w) (hB : B < 2 ^ 256) :
    Calls Tryd.prog 6 #[.int .i64 n, A4 B] w fun r w' => r = .returned (.bool true) ∧ Below w.heap.size w w' := by
  have c14 := dC n B hB
  have c15 := fun W => rcan14 n B W hB
  by_cases hg : goodD n B
  · obtain ⟨e1, e2, e3⟩ := vU_good hg
    have hi := vM_is (fD_ok n) B
    have hg2 := vP_good hg.1 hi
    obtain ⟨f1, f2, f3⟩ := vU_good hg2
    have hV : vCV n B = vP (fD n) (vM (fD n) B) := if_pos hg
    have hback := vM_vP (fD_ok n) hi
    rw [hback] at f1 f2
    rw [hV, e3] at c14 c15
    have u1 := h.unp n B hB
    have u2 := h.unp n _ (vP_256 (fD_ok n) hi)
    rw [e1] at u1
    rw [f1, f2, decide_eq_true rfl] at u2
    have d14 := dC n _ (vP_256 (fD_ok n) hi)
    rw [show vCV n (vP (fD n) (vM (fD n) B)) = vP (fD n) (vM (fD n) B) by unfold vCV; rw [if_pos hg2, hback]] at d14
    exact canon_y TT h.next n w hT h.awk B _ _ _ _ _ _ _ _ _ _ c14 c15 u1 u2 d14
  · obtain ⟨e1, e2, e3⟩ := vU_bad hg
    exact canon_n TT h.next n w hT h.awk B _ _ (by rw [e3]; rfl) c14 c15
theorem back_v {TT : World → Prop} (h : DecC TT) (n : Int) (d : Dat) (B : Nat) (w : World) (hT : TT w) (hk : d.k < 2 ^ 256) (hB : B < 2 ^ 256) :
    Calls Tryd.prog 5 #[.int .i64 n, d.v, A4 B] w fun r w' => r = .returned (.bool true) ∧ Below w.heap.size w w' := by
  have c12 := h.pck n d hk
  have u2 := h.unp n B hB
  by_cases hd : decN n ∧ vI (fD n) d
  · have e0 : vPE n d = 0 := by unfold vPE; rw [if_pos hd.1, if_pos hd.2]
    have e1 : vPV n d = vP (fD n) d := if_pos hd
    obtain ⟨f1, f2, f3⟩ := vU_good (vP_good hd.1 hd.2)
    have hback := vM_vP (fD_ok n) hd.2
    rw [hback] at f1 f2
    have u1 := h.unp n _ (vP_256 (fD_ok n) hd.2)
    rw [f1, f2, f3, decide_eq_true rfl] at u1
    rw [e1] at c12
    by_cases hg : goodD n B
    · obtain ⟨g1, g2, g3⟩ := vU_good hg
      have hi := vM_is (fD_ok n) B
      obtain ⟨p1, p2⟩ := vPV_of hg
      have cp := h.pck n (vM (fD n) B) (vM_256 (fD_ok n) B)
      rw [p1, p2] at cp
      rw [g1, g2, g3] at u2
      exact back_yy TT h.next n w hT h.awk B _ _ _ _ _ _ _ _ _ _ _ _ _ c12 e0 u1 _ u2 cp (by rw [eq_words (vP_256 (fD_ok n) hi) hB])
    · obtain ⟨g1, g2, g3⟩ := vU_bad hg
      rw [g1, g2, g3, zero_v] at u2
      exact back_yn TT h.next n w hT h.awk B _ _ _ _ _ _ _ c12 e0 u1 u2
  · have e0 : (vPE n d == 0) = false := by
      unfold vPE
      by_cases q : decN n
      · rw [if_pos q, if_neg (fun r => hd ⟨q, r⟩)]; rfl
      · rw [if_neg q]; rfl
    by_cases hg : goodD n B
    · obtain ⟨g1, g2, g3⟩ := vU_good hg
      have hi := vM_is (fD_ok n) B
      obtain ⟨p1, p2⟩ := vPV_of hg
      have cp := h.pck n (vM (fD n) B) (vM_256 (fD_ok n) B)
      rw [p1, p2] at cp
      rw [g1, g2, g3] at u2
      exact back_ny TT h.next n w hT h.awk B _ _ _ _ _ _ _ _ _ _ _ _ _ c12 e0 _ u2 cp (by rw [eq_words (vP_256 (fD_ok n) hi) hB])
    · obtain ⟨g1, g2, g3⟩ := vU_bad hg
      rw [g1, g2, g3, zero_v] at u2
      exact back_nn TT h.next n w hT h.awk B _ _ _ _ _ _ _ c12 e0 u2
end Go.Proofs.YtjjaamdgochilaaDoor

namespace Go.Proofs.YtjjaamdgochilaaDoor
open Go.RowKit
set_option maxHeartbeats 1000000 in
theorem layof_ok (n : Int) (w : World) (hT : Tab w) (hd : decN n) : Calls Tryd.prog 21 #[.int .i64 n] w fun r w' => r = .returned (.tuple #[LF (fD n), .int .i64 0]) ∧ Below w.heap.size w w' := by
  obtain ⟨hok, f1, f2, f3, f4, f5, f6, f7, f8⟩ := dec_fields hd
  have c1 := fun W hW => ofv_any n W hW
  rw [show infoE n = 0 from if_pos hok, f1, f2, f3, f4, f5, f6, f7, f8] at c1
  have h := fD_ok n
  have hw := h.w12
  generalize fD n = f at *
  have hG : ((f.t + (f.w + 6) : Nat) : Int) / 16 + 9 = ((f.w + 5 : Nat) : Int) := by rcases h with ⟨h1, h2, h3, h4⟩ | ⟨h1, h2, h3, h4⟩ | ⟨h1, h2, h3, h4⟩ <;> rw [h1, h2] <;> rfl
  have cc := fun W => dten_v (3 * f.j + 1) W (by omega)
  have cp := fun W => dten_v (3 * f.j) W (by omega)
  have e1 : ((3 * f.j + 1 : Nat) : Int) = 3 * (f.j : Int) + 1 := by omega
  have e2 : ((3 * f.j : Nat) : Int) = 3 * (f.j : Int) := by omega
  have cw := cp
  rw [e1] at cc
  rw [e2] at cp
  unfold LF
  cases e : f.dn
  · rw [e] at c1
    have eB : vB f = 0 := by unfold vB; rw [e, if_neg (by decide)]
    have eQ : vQ f = 2 ^ f.t := by unfold vQ; rw [e, if_neg (by decide)]
    have cs := fun W => shl4 1 f.t W (by decide) (by omega)
    rw [Nat.one_mul] at cs
    rw [eB, eQ]
    exact dlay_p n _ n _ _ _ _ _ _ w hT _ _ _ _ (by omega) (by omega) hG (by omega) (by omega) (by omega) (by omega) (by omega) cc cp _ c1 (fun W => of4 1 W (by decide)) cs
  · rw [e] at c1
    have eB : vB f = f.w := by unfold vB; rw [e, if_pos rfl]
    have eQ : vQ f = 10 ^ (3 * f.j) := by unfold vQ; rw [e, if_pos rfl]
    rw [eB, eQ]
    rw [show ((3 * f.j : Nat) : Int) = 3 * (f.j : Int) + 1 - 1 by omega] at cw
    exact dlay_d n _ n _ _ _ _ _ _ w hT _ _ _ _ (by omega) (by omega) hG (by omega) (by omega) (by omega) (by omega) (by omega) cc cp _ _ (by omega) (by omega) (by omega) c1 cw
theorem not_dec {n : Int} (h : ¬ decN n) : (okN n ∧ (baseN n != 10) = true) ∨ ¬ okN n := by
  by_cases hk : okN n
  · left
    refine ⟨hk, ?_⟩
    unfold decN at h
    rcases okN_cases hk with rfl | rfl | rfl | rfl | rfl | rfl | rfl | rfl | rfl | rfl | rfl | rfl <;> first | rfl | omega
  · exact Or.inr hk
theorem layof_bad (n : Int) (w : World) (hT : Tab w) (hd : ¬ decN n) : Calls Tryd.prog 21 #[.int .i64 n] w fun r w' => r = .returned (.tuple #[ZL, .int .i64 1]) ∧ Below w.heap.size w w' := by
  have c1 := fun W hW => ofv_any n W hW
  rcases not_dec hd with ⟨hk, hb⟩ | hk
  · rw [show infoE n = 0 from if_pos hk] at c1
    exact dlay_b n _ _ _ _ _ _ _ _ _ _ w hT hb c1
  · rw [show infoE n = 1 from if_neg hk] at c1
    exact dlay_e n _ _ _ _ _ _ _ _ _ _ w hT 1 rfl c1
theorem fits_dec {n : Int} (B : Nat) (hd : decN n) : (okN n ∧ B < 2 ^ (widthN n).toNat) ↔ goodD n B := by
  have hF := dec_fields hd
  rw [hF.2.2.2.1, Int.toNat_natCast]
  exact ⟨fun h => ⟨hd, h.2⟩, fun h => ⟨hF.1, h.2⟩⟩
theorem layfor_ok (n : Int) (B : Nat) (w : World) (hT : Tab w) (hB : B < 2 ^ 256) (hg : goodD n B) : Calls Tryd.prog 16 #[.int .i64 n, A4 B] w fun r w' => r = .returned (.tuple #[LF (fD n), .int .i64 0]) ∧ Below w.heap.size w w' := by
  have c1 := fun W hW => fits4 n B hB W hW
  rw [decide_eq_true ((fits_dec B hg.1).2 hg)] at c1
  exact dfor_y n B w hT c1 _ _ _ _ _ _ _ _ _ (fun W hW => layof_ok n W hW hg.1)
theorem layfor_bad (n : Int) (B : Nat) (w : World) (hT : Tab w) (hB : B < 2 ^ 256) (hg : ¬ goodD n B) : Calls Tryd.prog 16 #[.int .i64 n, A4 B] w fun r w' => r = .returned (.tuple #[ZL, .int .i64 1]) ∧ Below w.heap.size w w' := by
  have c1 := fun W hW => fits4 n B hB W hW
  by_cases hd : decN n
  · rw [decide_eq_false (fun q => hg ((fits_dec B hd).1 q))] at c1
    exact dfor_n n B w hT c1
  · by_cases hf : okN n ∧ B < 2 ^ (widthN n).toNat
    · rw [decide_eq_true hf] at c1
      exact dfor_b n B w hT c1 (fun W hW => layof_bad n W hW hd)
    · rw [decide_eq_false hf] at c1
      exact dfor_n n B w hT c1
/-- decimal.Pack by value -/
theorem dpack14 (n : Int) (d : Dat) (hk : d.k < 2 ^ 256) (W : World) (hT : Tab W) : Calls Tryd.prog 12 #[.int .i64 n, d.v] W fun r w' => r = .returned (.tuple #[A4 (vPV n d), .int .i64 (vPE n d)]) ∧ Below W.heap.size W w' := by
  unfold vPV vPE
  by_cases hd : decN n
  · have c2 := fun W => fpack (fD_ok n) d W hk
    have e1 : (if decN n ∧ vI (fD n) d then vP (fD n) d else 0) = (if vI (fD n) d then vP (fD n) d else 0) := by
      by_cases hi : vI (fD n) d
      · rw [if_pos ⟨hd, hi⟩, if_pos hi]
      · rw [if_neg (fun q => hi q.2), if_neg hi]
    rw [e1, if_pos hd]
    exact dpck14_y n W hT _ _ _ _ _ _ _ _ _ _ _ _ _ _ _ _ (fun W hW => layof_ok n W hW hd) c2
  · rw [if_neg (fun q => hd q.1), if_neg hd]
    exact dpck14_n n W hT _ _ _ _ _ (fun W hW => layof_bad n W hW hd)
/-- decimal.Unpack by value -/
theorem dunpk14 (n : Int) (B : Nat) (hB : B < 2 ^ 256) (W : World) (hT : Tab W) : Calls Tryd.prog 10 #[.int .i64 n, A4 B] W fun r w' => r = .returned (.tuple #[(vUD n B).v, .bool (vUC n B), .int .i64 (vUE n B)]) ∧ Below W.heap.size W w' := by
  by_cases hg : goodD n B
  · obtain ⟨e1, e2, e3⟩ := vU_good hg
    rw [e1, e2, e3]
    have h := fD_ok n
    have c3 := fun W => fpack h (vM (fD n) B) W (vM_256 h B)
    rw [if_pos (vM_is h B), if_pos (vM_is h B)] at c3
    refine dunp_y n W hT _ _ _ _ _ _ _ _ _ B (fun W hW => layfor_ok n B W hW hB hg) _ _ _ _ _ _ _ (fun W => fmean h B W hB) c3 _ ?_
    exact eq_words (vP_256 h (vM_is h B)) hB
  · obtain ⟨e1, e2, e3⟩ := vU_bad hg
    rw [e1, e2, e3, zero_v]
    exact dunp_n n W hT B (fun W hW => layfor_bad n B W hW hB hg)
/-- decimal.Canonical by value -/
theorem dcann14 (n : Int) (B : Nat) (hB : B < 2 ^ 256) (W : World) (hT : Tab W) : Calls Tryd.prog 14 #[.int .i64 n, A4 B] W fun r w' => r = .returned (.tuple #[A4 (vCV n B), .int .i64 (vUE n B)]) ∧ Below W.heap.size W w' := by
  unfold vCV vUE
  by_cases hg : goodD n B
  · rw [if_pos hg, if_pos hg]
    have h := fD_ok n
    have c3 := fun W => fpack h (vM (fD n) B) W (vM_256 h B)
    rw [if_pos (vM_is h B), if_pos (vM_is h B)] at c3
    exact dcan_y n W hT _ _ _ _ _ _ _ _ _ B (fun W hW => layfor_ok n B W hW hB hg) _ _ _ _ _ _ _ (fun W => fmean h B W hB) c3
  · rw [if_neg hg, if_neg hg]
    exact dcan_n n W hT B (fun W hW => layfor_bad n B W hW hB hg)
theorem decC : DecC Tab := ⟨fun w w' hT hb => hT.go hb, dunpk14, dpack14⟩
end Go.Proofs.YtjjaamdgochilaaDoor
