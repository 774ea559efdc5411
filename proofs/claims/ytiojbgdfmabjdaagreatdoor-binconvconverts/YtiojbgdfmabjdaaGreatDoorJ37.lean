/-
  Texts that the proof leans on.
-/
import Derived.Test.YtiojbgdfmabjdaaGreatDoorJ34
import Derived.Test.YtiojbgdfmabjdaaGreatDoorJ26
import Derived.Test.YtiojbgdfmabjdaaGreatDoorJ32
import Derived.Test.YtiojbgdfmabjdaaGreatDoorJ16
import Derived.Test.YtiojbgdfmabjdaaGreatDoorJ23
import Derived.Test.YtiojbgdfmabjdaaGreatDoorJ4
import Derived.Test.YtiojbgdfmabjdaaGreatDoorJ31
set_option linter.unusedVariables false
set_option linter.unusedSectionVars false
set_option linter.unusedSimpArgs false
set_option maxRecDepth 20000
namespace Go.Proofs.YtiojbgdfmabjdaaGreatDoor
open Go.RowKit
section
attribute [local irreducible] W4 NT NV

theorem DV_nul (c : Int) (s g : Bool) (x : Int) : DV c s g x 0 = .agg #[.int .i64 c, .bool s, .bool g, .int .i64 x, .int .u64 0, .int .u64 0, .int .u64 0, .int .u64 0] := by
  unfold DV; simp only [W4_zero]
set_option maxHeartbeats 400000 in
theorem rpow4 (p : Nat) (w : World) (hp : p ≤ 12000) : Calls Tryz.prog 102 #[.int .i64 2, .int .i64 p] w fun r w' => ∃ v, r = .returned v ∧ NV 50000 (2 ^ p) v w' ∧ Below w.heap.size w w' := by
  have c := fun W => rpow_nv p W hp
  go_enter Tryz.func102, Tryz.ntmps102
  go_wp2_with (go_at_call 38; refine (c _).mono ?_; rintro r w1 ⟨v, rfl, hv, hb1⟩)
  go_ret
  exact ⟨v, rfl, hv, hb1⟩
theorem sgn_lt (A B : Nat) : decide (sgn (A : Int) (B : Int) < 0) = decide (A < B) := by
  rcases sgn_ways (A : Int) (B : Int) with ⟨a, e⟩ | ⟨a, e⟩ | ⟨a, e⟩
  · rw [e, decide_eq_true (show A < B by omega)]; rfl
  · rw [e, decide_eq_false (show ¬ A < B by omega)]; rfl
  · rw [e, decide_eq_false (show ¬ A < B by omega)]; rfl
set_option maxHeartbeats 1000000 in
theorem rbelow_v (k p : Nat) (w : World) (hk : k < 2 ^ 256) (hp : p ≤ 12000) : Calls Tryz.prog 79 #[A4 k, .int .i64 2, .int .i64 p] w fun r w' => r = .returned (.bool (decide (k < 2 ^ p))) ∧ Below w.heap.size w w' := by
  have c1 := fun W => rpow4 p W hp
  have hs := sgn_lt k (2 ^ p)
  go_enter Tryz.func79, Tryz.ntmps79
  go_wp2
  go_region_with (first
    | (go_at_call 102; refine (c1 _).mono ?_; rintro e w1 ⟨v1, rfl, hl, hb1⟩; have hbx := box_nv (w0 := w) (B := k) (t := 24) hk (bnext bgo hb1); obtain ⟨hc1, hf1⟩ := bcell hb1; have hz1_0 : w.heap.size < w1.heap.size := lt_below hb1 ltg; have hl1_0 := Nat.le_of_lt hz1_0; have hA1 := bnext (w0 := w) bgo hb1; have hs1 := hA1.size; clear hb1)
    | (go_at_call 101; refine (rcmp_nv (by decide) (by decide) hbx hl).mono ?_; rintro e w2 ⟨rfl, rfl⟩))
  go_wp2
  go_ret
  exact ⟨congrArg (fun b => Ending.returned (.bool b)) hs, bgo⟩
section
variable (t : Int) (nm : ByteArray) (wd : Int) (f e : Nat) (l m : Int) (c x : Int) (s g : Bool) (k : Nat) (w : World)
  (c18 : ∀ W, Calls Tryz.prog 33 #[.int .i64 t] W fun r w' => r = .returned (.tuple #[IV t nm wd f e l m, .int .i64 0]) ∧ Below W.heap.size W w')
include c18
set_option maxHeartbeats 1000000 in
theorem rnan_y (c67 : ∀ W, Calls Tryz.prog 79 #[A4 k, .int .i64 2, .int .i64 ((f : Int) - 1)] W fun r w' => r = .returned (.bool true) ∧ Below W.heap.size W w') :
    Calls Tryz.prog 40 #[.int .i64 t, DV c s g x k] w fun r w' => r = .returned (.tuple #[DV c s false x k, .int .i64 (if g then 1 else 0)]) ∧ Below w.heap.size w w' := by
  have hsm := cell_set_map
  unfold A4 at c67
  cases g
  all_goals (
    go_enter Tryz.func40, Tryz.ntmps40
    go_wp2_with (first
      | (go_at_call 33; refine (c18 _).mono ?_; rintro r w1 ⟨rfl, hb1⟩; obtain ⟨hc1, hf1⟩ := bcell hb1; have hz1_0 : w.heap.size < w1.heap.size := lt_below hb1 ltg; have hl1_0 := Nat.le_of_lt hz1_0; have hz1_1 : w.heap.size + 1 < w1.heap.size := lt_below hb1 ltg; have hl1_1 := Nat.le_of_lt hz1_1; have hA1 := bnext (w0 := w) bgo hb1; have hs1 := hA1.size; clear hb1)
      | (go_at_call 79; refine (c67 _).mono ?_; rintro r w2 ⟨rfl, hb2⟩; obtain ⟨hc2, hf2⟩ := bcell hb2; have hz2_0 : w.heap.size < w2.heap.size := lt_below hb2 ltg; have hl2_0 := Nat.le_of_lt hz2_0; have hz2_1 : w.heap.size + 1 < w2.heap.size := lt_below hb2 ltg; have hl2_1 := Nat.le_of_lt hz2_1; have hz2_2 : w1.heap.size < w2.heap.size := lt_below hb2 ltg; have hl2_2 := Nat.le_of_lt hz2_2; have hA2 := bnext (w0 := w) bgo hb2; have hs2 := hA2.size; clear hb2))
    exact bodyPost_ret (by simp only [results, Tryz.results40]; go_simp) rfl ⟨rfl, bgo⟩)
set_option maxHeartbeats 1000000 in
theorem rnan_n (c67 : ∀ W, Calls Tryz.prog 79 #[A4 k, .int .i64 2, .int .i64 ((f : Int) - 1)] W fun r w' => r = .returned (.bool false) ∧ Below W.heap.size W w') :
    Calls Tryz.prog 40 #[.int .i64 t, DV c s g x k] w fun r w' => r = .returned (.tuple #[.agg #[.int .i64 c, .bool s, .bool false, .int .i64 x, .int .u64 0, .int .u64 0, .int .u64 0, .int .u64 0], .int .i64 (if g then 1 else 0)]) ∧ Below w.heap.size w w' := by
  have hsm := cell_set_map
  unfold A4 at c67
  cases g
  all_goals (
    go_enter Tryz.func40, Tryz.ntmps40
    go_wp2_with (first
      | (go_at_call 33; refine (c18 _).mono ?_; rintro r w1 ⟨rfl, hb1⟩; obtain ⟨hc1, hf1⟩ := bcell hb1; have hz1_0 : w.heap.size < w1.heap.size := lt_below hb1 ltg; have hl1_0 := Nat.le_of_lt hz1_0; have hz1_1 : w.heap.size + 1 < w1.heap.size := lt_below hb1 ltg; have hl1_1 := Nat.le_of_lt hz1_1; have hA1 := bnext (w0 := w) bgo hb1; have hs1 := hA1.size; clear hb1)
      | (go_at_call 79; refine (c67 _).mono ?_; rintro r w2 ⟨rfl, hb2⟩; obtain ⟨hc2, hf2⟩ := bcell hb2; have hz2_0 : w.heap.size < w2.heap.size := lt_below hb2 ltg; have hl2_0 := Nat.le_of_lt hz2_0; have hz2_1 : w.heap.size + 1 < w2.heap.size := lt_below hb2 ltg; have hl2_1 := Nat.le_of_lt hz2_1; have hz2_2 : w1.heap.size < w2.heap.size := lt_below hb2 ltg; have hl2_2 := Nat.le_of_lt hz2_2; have hA2 := bnext (w0 := w) bgo hb2; have hs2 := hA2.size; clear hb2))
    exact bodyPost_ret (by simp only [results, Tryz.results40]; go_simp) rfl ⟨rfl, bgo⟩)
end
theorem rnan_v {t : Int} (hb : binN t) (c x : Int) (s g : Bool) (k : Nat) (hk : k < 2 ^ 256) (w : World) :
    Calls Tryz.prog 40 #[.int .i64 t, DV c s g x k] w fun r w' => r = .returned (.tuple #[DV c s false x (if k < 2 ^ (fN t - 1) then k else 0), .int .i64 (if g then 1 else 0)]) ∧ Below w.heap.size w w' := by
  have c18 := fun W => rof_bin hb W
  have hf := fN_two hb
  have hf2 : fN t ≤ 240 := by rcases bin_cases hb with rfl | rfl | rfl | rfl | rfl | rfl <;> decide
  have c67 := fun W => rbelow_v k (fN t - 1) W hk (by omega)
  rw [show ((fN t - 1 : Nat) : Int) = (fN t : Int) - 1 by omega] at c67
  by_cases h : k < 2 ^ (fN t - 1)
  · rw [if_pos h]
    rw [decide_eq_true h] at c67
    exact rnan_y t _ _ _ _ _ _ c x s g k w c18 c67
  · rw [if_neg h, show DV c s false x 0 = _ from DV_nul c s false x]
    rw [decide_eq_false h] at c67
    exact rnan_n t _ _ _ _ _ _ c x s g k w c18 c67
end
section
attribute [local irreducible] W4 NT NV

theorem nt_oneB {W : World} {g : Nat} (hg : g = W.heap.size) : NT 900 1 (.slice (some ⟨g, 0, none⟩) 1 1) (W.alloc (.cells #[.int .u64 1] 22)) := by
  have h := nt_un1 (W := W) (V := 1) (vi := 1) hg rfl (by decide) (by decide)
  unfold NT at h ⊢
  obtain ⟨g', k', c', z, h1, h2, h3⟩ := h
  exact ⟨g', k', c', z, h1, Nat.le_trans h2 (by decide), h3⟩
section
variable (t d : Int) (c x : Int) (s g : Bool) (k : Nat) (w : World)
set_option maxHeartbeats 2000000 in
theorem into_2 (hc : c = 2) (R : Nat) (E : Int)
    (c53 : ∀ W, Calls Tryz.prog 39 #[.int .i64 t, .agg #[.int .i64 2, .bool s, .bool false, .int .i64 0, .int .u64 0, .int .u64 0, .int .u64 0, .int .u64 0]] W fun r w' => r = .returned (.tuple #[A4 R, .int .i64 E]) ∧ Below W.heap.size W w') :
    Calls Tryz.prog 16 #[.int .i64 t, .int .i64 d, DV c s g x k, .int .u64 2] w fun r w' => r = .returned (.tuple #[A4 R, .int .i64 0, .int .i64 0]) ∧ Below w.heap.size w w' := by
  subst hc
  have hsm := cell_set_map
  unfold A4 at *
  go_enter Tryz.func16, Tryz.ntmps16
  go_wp2_with (go_at_call 39; refine (c53 _).mono ?_; rintro r w1 ⟨rfl, hb1⟩; obtain ⟨hc1, hf1⟩ := bcell hb1; have hz1_0 : w.heap.size < w1.heap.size := lt_below hb1 ltg; have hl1_0 := Nat.le_of_lt hz1_0; have hz1_1 : w.heap.size + 1 < w1.heap.size := lt_below hb1 ltg; have hl1_1 := Nat.le_of_lt hz1_1; have hA1 := bnext (w0 := w) bgo hb1; have hs1 := hA1.size; clear hb1)
  exact bodyPost_ret (by simp only [results, Tryz.results16]; go_simp) rfl ⟨rfl, bgo⟩
set_option maxHeartbeats 2000000 in
theorem into_3 (hc : c = 3) (R k' : Nat) (F E : Int)
    (c54 : ∀ W, Calls Tryz.prog 40 #[.int .i64 t, DV 3 s g x k] W fun r w' => r = .returned (.tuple #[DV 3 s false x k', .int .i64 F]) ∧ Below W.heap.size W w')
    (c53 : ∀ W, Calls Tryz.prog 39 #[.int .i64 t, DV 3 s false x k'] W fun r w' => r = .returned (.tuple #[A4 R, .int .i64 E]) ∧ Below W.heap.size W w') :
    Calls Tryz.prog 16 #[.int .i64 t, .int .i64 d, DV c s g x k, .int .u64 2] w fun r w' => r = .returned (.tuple #[A4 R, .int .i64 F, .int .i64 0]) ∧ Below w.heap.size w w' := by
  subst hc
  have hsm := cell_set_map
  unfold A4 at *
  go_enter Tryz.func16, Tryz.ntmps16
  go_wp2_with (first
    | (go_at_call 40; refine (c54 _).mono ?_; rintro r w1 ⟨rfl, hb1⟩; obtain ⟨hc1, hf1⟩ := bcell hb1; have hz1_0 : w.heap.size < w1.heap.size := lt_below hb1 ltg; have hl1_0 := Nat.le_of_lt hz1_0; have hz1_1 : w.heap.size + 1 < w1.heap.size := lt_below hb1 ltg; have hl1_1 := Nat.le_of_lt hz1_1; have hA1 := bnext (w0 := w) bgo hb1; have hs1 := hA1.size; clear hb1)
    | (go_at_call 39; refine (c53 _).mono ?_; rintro r w2 ⟨rfl, hb2⟩; obtain ⟨hc2, hf2⟩ := bcell hb2; have hz2_0 : w.heap.size < w2.heap.size := lt_below hb2 ltg; have hl2_0 := Nat.le_of_lt hz2_0; have hz2_1 : w.heap.size + 1 < w2.heap.size := lt_below hb2 ltg; have hl2_1 := Nat.le_of_lt hz2_1; have hz2_2 : w1.heap.size < w2.heap.size := lt_below hb2 ltg; have hl2_2 := Nat.le_of_lt hz2_2; have hA2 := bnext (w0 := w) bgo hb2; have hs2 := hA2.size; clear hb2))
  exact bodyPost_ret (by simp only [results, Tryz.results16]; go_simp) rfl ⟨rfl, bgo⟩
set_option maxHeartbeats 2000000 in
theorem into_0 (hc : c = 1) (R : Nat) (F : Int)
    (c55 : ∀ W, Calls Tryz.prog 41 #[A4 k] W fun r w' => ∃ gv cv, r = .returned (.slice (some ⟨gv, 0, none⟩) 0 cv) ∧ NT 4 0 (.slice (some ⟨gv, 0, none⟩) 0 cv) w' ∧ Below W.heap.size W w')
    (c57 : ∀ W vn vd, NT 4 0 vn W → NT 900 1 vd W → Calls Tryz.prog 43 #[.int .i64 t, .int .i64 d, .bool s, vn, vd, .int .i64 0] W fun r w' => r = .returned (.tuple #[A4 R, .int .i64 F]) ∧ Below W.heap.size W w') :
    Calls Tryz.prog 16 #[.int .i64 t, .int .i64 d, DV c s g x k, .int .u64 2] w fun r w' => r = .returned (.tuple #[A4 R, .int .i64 F, .int .i64 0]) ∧ Below w.heap.size w w' := by
  subst hc
  have hsm := cell_set_map
  unfold A4 at *
  go_enter Tryz.func16, Tryz.ntmps16
  go_wp2_with (first
    | (go_at_call 41; refine (c55 _).mono ?_; rintro r w1 ⟨gv, cv, rfl, hn, hb1⟩; obtain ⟨hc1, hf1⟩ := bcell hb1; have hz1_0 : w.heap.size < w1.heap.size := lt_below hb1 ltg; have hl1_0 := Nat.le_of_lt hz1_0; have hz1_1 : w.heap.size + 1 < w1.heap.size := lt_below hb1 ltg; have hl1_1 := Nat.le_of_lt hz1_1; have hA1 := bnext (w0 := w) bgo hb1; have hs1 := hA1.size; clear hb1)
    | (go_at_call 43; refine (c57 _ _ _ (hn.next bgo) (nt_oneB rfl)).mono ?_; rintro r w2 ⟨rfl, hb2⟩; obtain ⟨hc2, hf2⟩ := bcell hb2; have hz2_0 : w.heap.size < w2.heap.size := lt_below hb2 ltg; have hl2_0 := Nat.le_of_lt hz2_0; have hz2_1 : w.heap.size + 1 < w2.heap.size := lt_below hb2 ltg; have hl2_1 := Nat.le_of_lt hz2_1; have hz2_2 : w1.heap.size < w2.heap.size := lt_below hb2 ltg; have hl2_2 := Nat.le_of_lt hz2_2; have hA2 := bnext (w0 := w) bgo hb2; have hs2 := hA2.size; clear hb2))
  exact bodyPost_ret (by simp only [results, Tryz.results16]; go_simp) rfl ⟨rfl, bgo⟩
set_option maxHeartbeats 2000000 in
theorem into_1 (hc : c = 1) (R N D : Nat) (F : Int)
    (c55 : ∀ W, Calls Tryz.prog 41 #[A4 k] W fun r w' => ∃ gv kv cv, r = .returned (.slice (some ⟨gv, 0, none⟩) kv cv) ∧ (0 : Int) < kv ∧ NT 4 k (.slice (some ⟨gv, 0, none⟩) kv cv) w' ∧ Below W.heap.size W w')
    (c56 : ∀ W vn vd, NT 4 k vn W → NT 900 1 vd W → Calls Tryz.prog 42 #[vn, vd, .int .u64 2, .int .i64 x] W fun r w' => ∃ a b, r = .returned (.tuple #[a, b]) ∧ NT 900 N a w' ∧ NT 900 D b w' ∧ Below W.heap.size W w')
    (c57 : ∀ W vn vd, NT 900 N vn W → NT 900 D vd W → Calls Tryz.prog 43 #[.int .i64 t, .int .i64 d, .bool s, vn, vd, .int .i64 0] W fun r w' => r = .returned (.tuple #[A4 R, .int .i64 F]) ∧ Below W.heap.size W w') :
    Calls Tryz.prog 16 #[.int .i64 t, .int .i64 d, DV c s g x k, .int .u64 2] w fun r w' => r = .returned (.tuple #[A4 R, .int .i64 F, .int .i64 0]) ∧ Below w.heap.size w w' := by
  subst hc
  have hsm := cell_set_map
  unfold A4 at *
  go_enter Tryz.func16, Tryz.ntmps16
  go_wp2_with (first
    | (go_at_call 41; refine (c55 _).mono ?_; rintro r w1 ⟨gv, kv, cv, rfl, hkv, hn, hb1⟩; obtain ⟨hc1, hf1⟩ := bcell hb1; have hz1_0 : w.heap.size < w1.heap.size := lt_below hb1 ltg; have hl1_0 := Nat.le_of_lt hz1_0; have hz1_1 : w.heap.size + 1 < w1.heap.size := lt_below hb1 ltg; have hl1_1 := Nat.le_of_lt hz1_1; have hA1 := bnext (w0 := w) bgo hb1; have hs1 := hA1.size; clear hb1)
    | (go_at_call 42; refine (c56 _ _ _ (hn.next bgo) (nt_oneB rfl)).mono ?_; rintro r w2 ⟨a2, b2, rfl, nA, nB, hb2⟩; obtain ⟨hc2, hf2⟩ := bcell hb2; have hz2_0 : w.heap.size < w2.heap.size := lt_below hb2 ltg; have hl2_0 := Nat.le_of_lt hz2_0; have hz2_1 : w.heap.size + 1 < w2.heap.size := lt_below hb2 ltg; have hl2_1 := Nat.le_of_lt hz2_1; have hz2_2 : w1.heap.size < w2.heap.size := lt_below hb2 ltg; have hl2_2 := Nat.le_of_lt hz2_2; have hA2 := bnext (w0 := w) bgo hb2; have hs2 := hA2.size; clear hb2)
    | (go_at_call 43; refine (c57 _ _ _ nA nB).mono ?_; rintro r w3 ⟨rfl, hb3⟩; obtain ⟨hc3, hf3⟩ := bcell hb3; have hz3_0 : w.heap.size < w3.heap.size := lt_below hb3 ltg; have hl3_0 := Nat.le_of_lt hz3_0; have hz3_1 : w.heap.size + 1 < w3.heap.size := lt_below hb3 ltg; have hl3_1 := Nat.le_of_lt hz3_1; have hz3_2 : w1.heap.size < w3.heap.size := lt_below hb3 ltg; have hl3_2 := Nat.le_of_lt hz3_2; have hA3 := bnext (w0 := w) bgo hb3; have hs3 := hA3.size; clear hb3))
  exact bodyPost_ret (by simp only [results, Tryz.results16]; go_simp) rfl ⟨rfl, bgo⟩
end
section
variable (m t d : Int) (B : Nat) (w : World)
set_option maxHeartbeats 2000000 in
theorem rcv_n (b1 b2 b3 : Bool) (hn : (b1 && b2 && b3) = false)
    (c8 : ∀ W, Calls Tryz.prog 12 #[.int .i64 m, A4 B] W fun r w' => r = .returned (.bool b1) ∧ Below W.heap.size W w')
    (c14 : ∀ W, Calls Tryz.prog 13 #[.int .i64 t] W fun r w' => r = .returned (.bool b2) ∧ W = w')
    (c10 : ∀ W, Calls Tryz.prog 14 #[.int .i64 d] W fun r w' => r = .returned (.bool b3) ∧ W = w') :
    Calls Tryz.prog 6 #[.int .i64 m, .int .i64 t, .int .i64 d, A4 B] w fun r w' => r = .returned (.tuple #[A4 0, .int .i64 0, .int .i64 1]) ∧ Below w.heap.size w w' := by
  have hsm := cell_set_map
  rw [A4_zero]
  unfold A4 at *
  cases b1 <;> cases b2 <;> cases b3 <;> simp only [Bool.and_self, Bool.and_true, Bool.and_false, Bool.true_and, Bool.false_and, Bool.true_eq_false] at hn
  all_goals (
    clear hn
    go_enter Tryz.func6, Tryz.ntmps6
    go_wp2_with (first
      | (go_at_call 12; refine (c8 _).mono ?_; rintro r w1 ⟨rfl, hb1⟩; obtain ⟨hc1, hf1⟩ := bcell hb1; have hz1_0 : w.heap.size < w1.heap.size := lt_below hb1 ltg; have hl1_0 := Nat.le_of_lt hz1_0; have hz1_1 : w.heap.size + 1 < w1.heap.size := lt_below hb1 ltg; have hl1_1 := Nat.le_of_lt hz1_1; have hA1 := bnext (w0 := w) bgo hb1; have hs1 := hA1.size; clear hb1)
      | (go_at_call 13; refine (c14 _).mono ?_; rintro r w2 ⟨rfl, rfl⟩)
      | (go_at_call 14; refine (c10 _).mono ?_; rintro r w3 ⟨rfl, rfl⟩))
    exact bodyPost_ret (by simp only [results, Tryz.results6]; go_simp) rfl ⟨rfl, bgo⟩)
set_option maxHeartbeats 2000000 in
theorem rcv_y (c x : Int) (s g : Bool) (k V : Nat) (F : Int)
    (c8 : ∀ W, Calls Tryz.prog 12 #[.int .i64 m, A4 B] W fun r w' => r = .returned (.bool true) ∧ Below W.heap.size W w')
    (c14 : ∀ W, Calls Tryz.prog 13 #[.int .i64 t] W fun r w' => r = .returned (.bool true) ∧ W = w')
    (c10 : ∀ W, Calls Tryz.prog 14 #[.int .i64 d] W fun r w' => r = .returned (.bool true) ∧ W = w')
    (c40 : ∀ W, Calls Tryz.prog 15 #[.int .i64 m, A4 B] W fun r w' => r = .returned (.tuple #[DV c s g x k, .int .i64 0]) ∧ Below W.heap.size W w')
    (c41 : ∀ W, Calls Tryz.prog 16 #[.int .i64 t, .int .i64 d, DV c s g x k, .int .u64 2] W fun r w' => r = .returned (.tuple #[A4 V, .int .i64 F, .int .i64 0]) ∧ Below W.heap.size W w') :
    Calls Tryz.prog 6 #[.int .i64 m, .int .i64 t, .int .i64 d, A4 B] w fun r w' => r = .returned (.tuple #[A4 V, .int .i64 F, .int .i64 0]) ∧ Below w.heap.size w w' := by
  have hsm := cell_set_map
  unfold A4 at *
  go_enter Tryz.func6, Tryz.ntmps6
  go_wp2_with (first
    | (go_at_call 12; refine (c8 _).mono ?_; rintro r w1 ⟨rfl, hb1⟩; obtain ⟨hc1, hf1⟩ := bcell hb1; have hz1_0 : w.heap.size < w1.heap.size := lt_below hb1 ltg; have hl1_0 := Nat.le_of_lt hz1_0; have hz1_1 : w.heap.size + 1 < w1.heap.size := lt_below hb1 ltg; have hl1_1 := Nat.le_of_lt hz1_1; have hA1 := bnext (w0 := w) bgo hb1; have hs1 := hA1.size; clear hb1)
    | (go_at_call 13; refine (c14 _).mono ?_; rintro r w2 ⟨rfl, rfl⟩)
    | (go_at_call 14; refine (c10 _).mono ?_; rintro r w3 ⟨rfl, rfl⟩)
    | (go_at_call 15; refine (c40 _).mono ?_; rintro r w4 ⟨rfl, hb4⟩; obtain ⟨hc4, hf4⟩ := bcell hb4; have hz4_0 : w.heap.size < w4.heap.size := lt_below hb4 ltg; have hl4_0 := Nat.le_of_lt hz4_0; have hz4_1 : w.heap.size + 1 < w4.heap.size := lt_below hb4 ltg; have hl4_1 := Nat.le_of_lt hz4_1; have hA4 := bnext (w0 := w) bgo hb4; have hs4 := hA4.size; clear hb4)
    | (go_at_call 16; refine (c41 _).mono ?_; rintro r w5 ⟨rfl, hb5⟩; obtain ⟨hc5, hf5⟩ := bcell hb5; have hz5_0 : w.heap.size < w5.heap.size := lt_below hb5 ltg; have hl5_0 := Nat.le_of_lt hz5_0; have hz5_1 : w.heap.size + 1 < w5.heap.size := lt_below hb5 ltg; have hl5_1 := Nat.le_of_lt hz5_1; have hz5_2 : w4.heap.size < w5.heap.size := lt_below hb5 ltg; have hl5_2 := Nat.le_of_lt hz5_2; have hA5 := bnext (w0 := w) bgo hb5; have hs5 := hA5.size; clear hb5))
  exact bodyPost_ret (by simp only [results, Tryz.results6]; go_simp) rfl ⟨rfl, bgo⟩
end
end
end Go.Proofs.YtiojbgdfmabjdaaGreatDoor
