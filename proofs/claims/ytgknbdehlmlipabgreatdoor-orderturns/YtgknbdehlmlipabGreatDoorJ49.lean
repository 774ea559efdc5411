/-
  Texts that the proof leans on.
-/
import Derived.Test.YtgknbdehlmlipabGreatDoorJ47
import Derived.Test.YtgknbdehlmlipabGreatDoorJ46
import Derived.Test.YtgknbdehlmlipabGreatDoorJ3
import Derived.Test.YtgknbdehlmlipabGreatDoorJ32
import Derived.Test.YtgknbdehlmlipabGreatDoorJ45
import Derived.Test.YtgknbdehlmlipabGreatDoorJ48
import Derived.Test.YtgknbdehlmlipabGreatDoorJ11
import Derived.Test.YtgknbdehlmlipabGreatDoorJ29
import Derived.Test.YtgknbdehlmlipabGreatDoorJ26
import Derived.Deep.Cut
import Derived.Deep.CutRange
import Derived.Deep.RegionWith
import Derived.Test.YtgknbdehlmlipabGreatDoorJ22
import Derived.Test.YtgknbdehlmlipabGreatDoorJ19
import Derived.Test.YtgknbdehlmlipabGreatDoorJ20
import Derived.Laws.IdiomCopy
import Derived.Test.YtgknbdehlmlipabGreatDoorJ24
import Derived.Test.YtgknbdehlmlipabGreatDoorJ23
import Derived.Test.YtgknbdehlmlipabGreatDoorJ30
import Derived.RegionTactic
import Derived.ChangeAlike
import Derived.BigRegion
import Derived.Laws.Strings2
import Derived.Test.YtgknbdehlmlipabGreatDoorJ31
import Derived.Test.YtgknbdehlmlipabGreatDoorJ40
import Derived.Test.YtgknbdehlmlipabGreatDoorJ35
import Derived.Test.YtgknbdehlmlipabGreatDoorJ43
import Derived.Shelf.SlicesE.Reverse
import Derived.Laws.BytesArg
import Derived.Lib.AppendStr
import Derived.Lib.Builder
import Derived.Deep.AppendLies
import Derived.Test.YtgknbdehlmlipabGreatDoorJ34
set_option linter.unusedVariables false
set_option linter.unusedSectionVars false
set_option linter.unusedSimpArgs false
set_option maxRecDepth 20000
namespace Go.Proofs.YtgknbdehlmlipabGreatDoor
open Go.RowKit
attribute [local irreducible] W4 Nt Nz NT
abbrev FnV (f : Nat) : Value := .func (.func f) #[] #[]
section
variable (c x b : Int) (s g : Bool) (k : Nat) (c' x' b' : Int) (s' g' : Bool) (k' : Nat) (R R' : Int) (w : World)
set_option maxHeartbeats 4000000 in
theorem sg_s
    (c1 : ∀ W, Calls Tryz.prog 26 #[OV c s g x k b, OV c' s' g' x' k' b'] W fun r w' => r = .returned (.int .i64 R) ∧ Below W.heap.size W w')
    (c2 : ∀ W, Calls Tryz.prog 26 #[OV c' s' g' x' k' b', OV c s g x k b] W fun r w' => r = .returned (.int .i64 R') ∧ Below W.heap.size W w') :
    Calls Tryz.prog 18 #[OV c s g x k b, OV c' s' g' x' k' b', FnV 26] w fun r w' => r = .returned (.int .i64 (sgV s s' R R')) ∧ Below w.heap.size w w' := by
  have hsm := cell_set_map
  cases s <;> cases s'
  · go_enter Tryz.func18, Tryz.ntmps18
    go_wp2_with (go_at_call 26; refine (c1 _).mono ?_; rintro r w1 ⟨rfl, hb1⟩; obtain ⟨hc1, hf1⟩ := bcell hb1; have hz1_0 : w.heap.size < w1.heap.size := lt_below hb1 ltg; have hl1_0 := Nat.le_of_lt hz1_0; have hz1_1 : w.heap.size + 1 < w1.heap.size := lt_below hb1 ltg; have hl1_1 := Nat.le_of_lt hz1_1; have hA1 := bnext (w0 := w) bgo hb1; have hs1 := hA1.size; clear hb1)
    go_ret
    exact ⟨by first | rfl | simp, bgo⟩
  · go_enter Tryz.func18, Tryz.ntmps18
    go_wp2
    go_ret
    exact ⟨by first | rfl | simp, bgo⟩
  · go_enter Tryz.func18, Tryz.ntmps18
    go_wp2
    go_ret
    exact ⟨by first | rfl | simp, bgo⟩
  · go_enter Tryz.func18, Tryz.ntmps18
    go_wp2_with (go_at_call 26; refine (c2 _).mono ?_; rintro r w2 ⟨rfl, hb2⟩; obtain ⟨hc2, hf2⟩ := bcell hb2; have hz2_0 : w.heap.size < w2.heap.size := lt_below hb2 ltg; have hl2_0 := Nat.le_of_lt hz2_0; have hz2_1 : w.heap.size + 1 < w2.heap.size := lt_below hb2 ltg; have hl2_1 := Nat.le_of_lt hz2_1; have hA2 := bnext (w0 := w) bgo hb2; have hs2 := hA2.size; clear hb2)
    go_ret
    exact ⟨by first | rfl | simp, bgo⟩
set_option maxHeartbeats 4000000 in
theorem sg_o
    (c1 : ∀ W, Calls Tryz.prog 19 #[OV c s g x k b, OV c' s' g' x' k' b'] W fun r w' => r = .returned (.int .i64 R) ∧ Below W.heap.size W w')
    (c2 : ∀ W, Calls Tryz.prog 19 #[OV c' s' g' x' k' b', OV c s g x k b] W fun r w' => r = .returned (.int .i64 R') ∧ Below W.heap.size W w') :
    Calls Tryz.prog 18 #[OV c s g x k b, OV c' s' g' x' k' b', FnV 19] w fun r w' => r = .returned (.int .i64 (sgV s s' R R')) ∧ Below w.heap.size w w' := by
  have hsm := cell_set_map
  cases s <;> cases s'
  · go_enter Tryz.func18, Tryz.ntmps18
    go_wp2_with (go_at_call 19; refine (c1 _).mono ?_; rintro r w1 ⟨rfl, hb1⟩; obtain ⟨hc1, hf1⟩ := bcell hb1; have hz1_0 : w.heap.size < w1.heap.size := lt_below hb1 ltg; have hl1_0 := Nat.le_of_lt hz1_0; have hz1_1 : w.heap.size + 1 < w1.heap.size := lt_below hb1 ltg; have hl1_1 := Nat.le_of_lt hz1_1; have hA1 := bnext (w0 := w) bgo hb1; have hs1 := hA1.size; clear hb1)
    go_ret
    exact ⟨by first | rfl | simp, bgo⟩
  · go_enter Tryz.func18, Tryz.ntmps18
    go_wp2
    go_ret
    exact ⟨by first | rfl | simp, bgo⟩
  · go_enter Tryz.func18, Tryz.ntmps18
    go_wp2
    go_ret
    exact ⟨by first | rfl | simp, bgo⟩
  · go_enter Tryz.func18, Tryz.ntmps18
    go_wp2_with (go_at_call 19; refine (c2 _).mono ?_; rintro r w2 ⟨rfl, hb2⟩; obtain ⟨hc2, hf2⟩ := bcell hb2; have hz2_0 : w.heap.size < w2.heap.size := lt_below hb2 ltg; have hl2_0 := Nat.le_of_lt hz2_0; have hz2_1 : w.heap.size + 1 < w2.heap.size := lt_below hb2 ltg; have hl2_1 := Nat.le_of_lt hz2_1; have hA2 := bnext (w0 := w) bgo hb2; have hs2 := hA2.size; clear hb2)
    go_ret
    exact ⟨by first | rfl | simp, bgo⟩
end
set_option maxHeartbeats 4000000 in
/-- cmp.Or of two -/
theorem cor_v (Z C : Int) (v : Value) (w : World) (h : TwI Z C v w) : Calls Tryz.prog 28 #[v] w fun r w' => r = .returned (.int .i64 (if Z ≠ 0 then Z else C)) ∧ Below w.heap.size w w' := by
  unfold TwI at h
  obtain ⟨g, rfl, hlt, h0, h1⟩ := h
  go_enter Tryz.func28, Tryz.ntmps28
  go_wp2
  go_loopw [5, 8] (fun v5 t wr => ∃ i : Nat, i ≤ 2 ∧ t = .int .i64 i ∧ (1 ≤ i → Z = 0) ∧ (2 ≤ i → C = 0) ∧ Below w.heap.size w wr) (fun _ t _ => 2 - (intOf t).toNat)
  case atStart => exact ⟨0, by decide, rfl, fun h => absurd h (by decide), fun h => absurd h (by decide), bgo⟩
  case round =>
    obtain ⟨i, hi, rfl, hz, hc, hb⟩ := hrel
    have q0 : wr.cell? ⟨g, 0, none⟩ = some (.int .i64 Z) := (hb.cell (p := ⟨g, 0, none⟩) hlt).trans h0
    have q1 : wr.cell? ⟨g, 1, none⟩ = some (.int .i64 C) := (hb.cell (p := ⟨g, 1, none⟩) hlt).trans h1
    have hor : i = 0 ∨ i = 1 ∨ i = 2 := by omega
    rcases hor with rfl | rfl | rfl
    · by_cases hZ : Z = 0
      · have hZ' : (Z != 0) = false := by simpa using hZ
        go_wp2
        go_roundw
        case rel => exact ⟨1, by decide, rfl, fun _ => hZ, fun h => absurd h (by decide), hb⟩
        case measure => simp [intOf]
      · have hZ' : (Z != 0) = true := by simpa using hZ
        go_wp2
        go_ret
        exact ⟨by simp [hZ], hb⟩
    · have hZ := hz (by decide)
      by_cases hC : C = 0
      · have hC' : (C != 0) = false := by simpa using hC
        go_wp2
        go_roundw
        case rel => exact ⟨2, by decide, rfl, fun _ => hZ, fun _ => hC, hb⟩
        case measure => simp [intOf]
      · have hC' : (C != 0) = true := by simpa using hC
        go_wp2
        go_ret
        exact ⟨by first | rfl | simp, hb⟩
    · have hZ := hz (by decide)
      have hC := hc (by decide)
      go_wp2
      go_ret
      exact ⟨by simp [hZ, hC], hb⟩
section
variable (c x b : Int) (s g : Bool) (k : Nat) (hk : k < 2 ^ 256) (c' x' b' : Int) (s' g' : Bool) (k' : Nat) (hk' : k' < 2 ^ 256) (w : World)
set_option maxHeartbeats 4000000 in
/-- outward, of two classes -/
theorem ow_c (h : (c != c') = true) : Calls Tryz.prog 19 #[OV c s g x k b, OV c' s' g' x' k' b'] w fun r w' => r = .returned (.int .i64 (sgn c c')) ∧ Below w.heap.size w w' := by
  have hsm := cell_set_map
  have c9 := fun W => compare_int c c' W
  go_enter Tryz.func19, Tryz.ntmps19
  go_wp2_with (go_at_call 27; refine (c9 _).mono ?_; rintro r w1 ⟨rfl, rfl⟩)
  go_ret
  exact ⟨by first | rfl | simp, bgo⟩
set_option maxHeartbeats 4000000 in
/-- outward, of numbers -/
theorem ow_n (h : (c != c') = false) (h3 : (c != 3) = true) (Z : Int)
    (c1 : ∀ W, Calls Tryz.prog 26 #[OV c s g x k b, OV c' s' g' x' k' b'] W fun r w' => r = .returned (.int .i64 Z) ∧ Below W.heap.size W w') :
    Calls Tryz.prog 19 #[OV c s g x k b, OV c' s' g' x' k' b'] w fun r w' => r = .returned (.int .i64 (if Z ≠ 0 then Z else sgn x x')) ∧ Below w.heap.size w w' := by
  have hsm := cell_set_map
  have c9 : ∀ W, Calls Tryz.prog 27 #[.int .i64 x, .int .i64 x'] W fun r w' => r = .returned (.int .i64 (sgn x x')) ∧ Below W.heap.size W w' := fun W => (compare_int x x' W).mono fun r w' h => ⟨h.1, h.2 ▸ Below.refl _ _⟩
  generalize hR : (if Z ≠ 0 then Z else sgn x x') = R
  go_enter Tryz.func19, Tryz.ntmps19
  go_wp2
  refine regOw4 (h := w.heap.size) (j := w.heap.size + 1) (k := k) (k' := k') (c := c) (x := x) (b := b) (s := s) (g := g) (c' := c') (x' := x') (b' := b') (s' := s') (g' := g') (Z := Z) (C := sgn x x') (R := R) (fun _ _ d _ _ h => by cases d <;> exact h) rfl rfl rfl (by first | omega | (simp; omega) | simp) (by go_simp) (by go_simp) (by go_simp) (by go_simp) (by go_simp) (by go_simp) (by go_simp) (by go_simp) (by go_simp) (by first | omega | (simp; omega) | simp) (by go_simp) (by go_simp) (by go_simp) (by go_simp) (by go_simp) (by go_simp) (by go_simp) (by go_simp) (by go_simp) c1 c9 (fun W v hv => by rw [← hR]; exact cor_v Z (sgn x x') v W hv) ?_
  intro a' w4 h4 hsz hdf hF2 hb4
  have ha := act_of slotsAOw4 13 rfl hsz hdf hF2
  rw [ha]
  simp only [slotsAOw4, List.foldl_cons, List.foldl_nil, Act.put, List.setIfInBounds_toArray, List.set_cons_succ, List.set_cons_zero, h4]
  generalize slot a' 25 = s25
  generalize slot a' 26 = s26
  generalize slot a' 27 = s27
  generalize slot a' 28 = s28
  generalize slot a' 29 = s29
  generalize slot a' 30 = s30
  generalize slot a' 31 = s31
  generalize slot a' 32 = s32
  generalize slot a' 33 = s33
  generalize slot a' 34 = s34
  generalize slot a' 35 = s35
  generalize slot a' 36 = s36
  clear ha h4 hsz hdf hF2
  obtain ⟨hc4, hf4⟩ := bcell hb4; have hz4_0 : w.heap.size < w4.heap.size := lt_below hb4 ltg; have hl4_0 := Nat.le_of_lt hz4_0; have hz4_1 : w.heap.size + 1 < w4.heap.size := lt_below hb4 ltg; have hl4_1 := Nat.le_of_lt hz4_1; have hA4 := bnext (w0 := w) bgo hb4; have hs4 := hA4.size; clear hb4
  go_wp2
  go_ret
  exact ⟨by first | rfl | simp, bgo⟩
set_option maxHeartbeats 4000000 in
/-- outward, of NaNs of two kinds -/
theorem ow_s (h : (c != c') = false) (h3 : (c != 3) = false) (R : Int) (hg : (g = true ∧ g' = false ∧ R = -1) ∨ (g = false ∧ g' = true ∧ R = 1)) :
    Calls Tryz.prog 19 #[OV c s g x k b, OV c' s' g' x' k' b'] w fun r w' => r = .returned (.int .i64 R) ∧ Below w.heap.size w w' := by
  have hsm := cell_set_map
  rcases hg with ⟨rfl, rfl, rfl⟩ | ⟨rfl, rfl, rfl⟩
  all_goals
    go_enter Tryz.func19, Tryz.ntmps19
    go_wp2
    go_ret
    exact ⟨by first | rfl | simp, bgo⟩
include hk hk'
set_option maxHeartbeats 4000000 in
/-- outward, of NaNs of one kind -/
theorem ow_p (h : (c != c') = false) (h3 : (c != 3) = false) (hg : g = g') (R : Int)
    (c3 : ∀ W v v', Nt 4 k v W → Nt 4 k' v' W → Calls Tryz.prog 29 #[v, v'] W fun r w' => r = .returned (.int .i64 R) ∧ Below W.heap.size W w') :
    Calls Tryz.prog 19 #[OV c s g x k b, OV c' s' g' x' k' b'] w fun r w' => r = .returned (.int .i64 R) ∧ Below w.heap.size w w' := by
  have hbx := fun W hW => op_new (w0 := w) (w := W) (c := c) (s := s) (g := g) (x := x) (b := b) (t := 50) hk hW
  have hby : ∀ W, Below ((w.alloc (.cells (OCs c s g x k b) 50)).alloc (.cells (OCs c' s' g' x' k' b') 50)).heap.size ((w.alloc (.cells (OCs c s g x k b) 50)).alloc (.cells (OCs c' s' g' x' k' b') 50)) W → Nt 4 k' (.slice (some ⟨w.heap.size + 1, 4, none⟩) 4 4) W := fun W hW => by
    have := op_new (w0 := w.alloc (.cells (OCs c s g x k b) 50)) (w := W) (c := c') (s := s') (g := g') (x := x') (b := b') (t := 50) hk' hW
    rwa [show (w.alloc (.cells (OCs c s g x k b) 50)).heap.size = w.heap.size + 1 by simp] at this
  clear hk hk'
  have hsm := cell_set_map
  subst hg
  cases g
  all_goals
    go_enter Tryz.func19, Tryz.ntmps19
    go_wp2
    refine wp_tail 6 (by kernel_rfl) (by kernel_rfl) (by kernel_rfl) (fun _ _ d _ _ h => by cases d <;> exact h) fun hne hcell => ?_
    simp only [List.take_succ_cons, List.take_zero, List.drop_succ_cons, List.drop_zero]
    repeat go_big_quiet_step (fail)
    refine wpQuiet_nil fun w2 hb2 => ?_
    have hv0 := hbx _ (bnx (below1 _ _) hb2)
    have hv1 := hby _ hb2
    obtain ⟨hc2, hf2⟩ := bcell hb2; have hz2_0 : w.heap.size < w2.heap.size := lt_below hb2 ltg; have hl2_0 := Nat.le_of_lt hz2_0; have hz2_1 : w.heap.size + 1 < w2.heap.size := lt_below hb2 ltg; have hl2_1 := Nat.le_of_lt hz2_1; have hA2 := bnext (w0 := w) bgo hb2; have hs2 := hA2.size; clear hb2
    go_wp2_with (go_at_call 29; refine (c3 _ _ _ hv0 hv1).mono ?_; rintro r w3 ⟨rfl, hb3⟩; obtain ⟨hc3, hf3⟩ := bcell hb3; have hz3_0 : w.heap.size < w3.heap.size := lt_below hb3 ltg; have hl3_0 := Nat.le_of_lt hz3_0; have hz3_1 : w.heap.size + 1 < w3.heap.size := lt_below hb3 ltg; have hl3_1 := Nat.le_of_lt hz3_1; have hA3 := bnext (w0 := w) bgo hb3; have hs3 := hA3.size; clear hb3)
    go_ret
    exact ⟨by first | rfl | simp, bgo⟩
end
end Go.Proofs.YtgknbdehlmlipabGreatDoor

namespace Go.Proofs.YtgknbdehlmlipabGreatDoor
open Go.RowKit
attribute [local irreducible] W4 Nt Nz NT
section
variable (f n : Int) (A B : Nat) (c x b : Int) (s g : Bool) (k : Nat) (c' x' b' : Int) (s' g' : Bool) (k' : Nat) (E : Int) (w : World) (hT : Tab w)
  (cB : ∀ W, Tab W → Calls Tryz.prog 17 #[.int .i64 f, A4 A, .int .i64 n, A4 B] W fun r w' => r = .returned (.tuple #[OV c s g x k b, OV c' s' g' x' k' b', .int .i64 E]) ∧ Below W.heap.size W w')
include hT cB
set_option maxHeartbeats 4000000 in
theorem mx_e (h : (E != 0) = true ∨ ((E != 0) = false ∧ E = 0 ∧ ((c == 3) = true ∨ ((c == 3) = false ∧ (c' == 3) = true)))) :
    Calls Tryz.prog 16 #[.int .i64 f, A4 A, .int .i64 n, A4 B] w fun r w' => r = .returned (.tuple #[.int .i64 0, .bool false, .int .i64 E]) ∧ Below w.heap.size w w' := by
  have hsm := cell_set_map
  rcases h with h | ⟨h, rfl, h3 | ⟨h3, h4⟩⟩
  all_goals
    go_enter Tryz.func16, Tryz.ntmps16
    go_wp2_with (go_at_call 17; refine (cB _ (hT.go bgo)).mono ?_; rintro r w1 ⟨rfl, hb1⟩; obtain ⟨hc1, hf1⟩ := bcell hb1; have hz1_0 : w.heap.size < w1.heap.size := lt_below hb1 ltg; have hl1_0 := Nat.le_of_lt hz1_0; have hz1_1 : w.heap.size + 1 < w1.heap.size := lt_below hb1 ltg; have hl1_1 := Nat.le_of_lt hz1_1; have hA1 := bnext (w0 := w) bgo hb1; have hs1 := hA1.size; clear hb1)
    exact bodyPost_ret (by simp only [results, Tryz.results16]; go_simp) rfl ⟨rfl, bgo⟩
variable (hE : E = 0) (h3 : (c == 3) = false) (h4 : (c' == 3) = false)
include hE h3 h4
set_option maxHeartbeats 4000000 in
theorem mx_0
    (c1 : ∀ W, Calls Tryz.prog 22 #[OV c s g x k b] W fun r w' => r = .returned (.bool true) ∧ Below W.heap.size W w')
    (c2 : ∀ W, Calls Tryz.prog 22 #[OV c' s' g' x' k' b'] W fun r w' => r = .returned (.bool true) ∧ Below W.heap.size W w') :
    Calls Tryz.prog 16 #[.int .i64 f, A4 A, .int .i64 n, A4 B] w fun r w' => r = .returned (.tuple #[.int .i64 0, .bool true, .int .i64 0]) ∧ Below w.heap.size w w' := by
  subst hE
  have hsm := cell_set_map
  go_enter Tryz.func16, Tryz.ntmps16
  go_wp2_with (first
    | (go_at_call 17; refine (cB _ (hT.go bgo)).mono ?_; rintro r w1 ⟨rfl, hb1⟩; obtain ⟨hc1, hf1⟩ := bcell hb1; have hz1_0 : w.heap.size < w1.heap.size := lt_below hb1 ltg; have hl1_0 := Nat.le_of_lt hz1_0; have hz1_1 : w.heap.size + 1 < w1.heap.size := lt_below hb1 ltg; have hl1_1 := Nat.le_of_lt hz1_1; have hA1 := bnext (w0 := w) bgo hb1; have hs1 := hA1.size; clear hb1)
    | (have := hA2; go_at_call 22; refine (c2 _).mono ?_; rintro r w3 ⟨rfl, hb3⟩; obtain ⟨hc3, hf3⟩ := bcell hb3; have hz3_0 : w.heap.size < w3.heap.size := lt_below hb3 ltg; have hl3_0 := Nat.le_of_lt hz3_0; have hz3_1 : w.heap.size + 1 < w3.heap.size := lt_below hb3 ltg; have hl3_1 := Nat.le_of_lt hz3_1; have hz3_2 : w1.heap.size < w3.heap.size := lt_below hb3 ltg; have hl3_2 := Nat.le_of_lt hz3_2; have hz3_3 : w1.heap.size + 1 < w3.heap.size := lt_below hb3 ltg; have hl3_3 := Nat.le_of_lt hz3_3; have hA3 := bnext (w0 := w) bgo hb3; have hs3 := hA3.size; clear hb3)
    | (go_at_call 22; refine (c1 _).mono ?_; rintro r w2 ⟨rfl, hb2⟩; obtain ⟨hc2, hf2⟩ := bcell hb2; have hz2_0 : w.heap.size < w2.heap.size := lt_below hb2 ltg; have hl2_0 := Nat.le_of_lt hz2_0; have hz2_1 : w.heap.size + 1 < w2.heap.size := lt_below hb2 ltg; have hl2_1 := Nat.le_of_lt hz2_1; have hz2_2 : w1.heap.size < w2.heap.size := lt_below hb2 ltg; have hl2_2 := Nat.le_of_lt hz2_2; have hz2_3 : w1.heap.size + 1 < w2.heap.size := lt_below hb2 ltg; have hl2_3 := Nat.le_of_lt hz2_3; have hA2 := bnext (w0 := w) bgo hb2; have hs2 := hA2.size; clear hb2))
  exact bodyPost_ret (by simp only [results, Tryz.results16]; go_simp) rfl ⟨rfl, bgo⟩
set_option maxHeartbeats 4000000 in
theorem mx_v (n1 n2 : Bool) (hn : n1 = false ∨ (n1 = true ∧ n2 = false)) (R : Int)
    (c1 : ∀ W, Calls Tryz.prog 22 #[OV c s g x k b] W fun r w' => r = .returned (.bool n1) ∧ Below W.heap.size W w')
    (c2 : ∀ W, Calls Tryz.prog 22 #[OV c' s' g' x' k' b'] W fun r w' => r = .returned (.bool n2) ∧ Below W.heap.size W w')
    (c3 : ∀ W, Calls Tryz.prog 18 #[OV c s g x k b, OV c' s' g' x' k' b', FnV 26] W fun r w' => r = .returned (.int .i64 R) ∧ Below W.heap.size W w') :
    Calls Tryz.prog 16 #[.int .i64 f, A4 A, .int .i64 n, A4 B] w fun r w' => r = .returned (.tuple #[.int .i64 R, .bool true, .int .i64 0]) ∧ Below w.heap.size w w' := by
  subst hE
  have hsm := cell_set_map
  rcases hn with rfl | ⟨rfl, rfl⟩
  all_goals
    go_enter Tryz.func16, Tryz.ntmps16
    go_wp2_with (first
      | (go_at_call 17; refine (cB _ (hT.go bgo)).mono ?_; rintro r w1 ⟨rfl, hb1⟩; obtain ⟨hc1, hf1⟩ := bcell hb1; have hz1_0 : w.heap.size < w1.heap.size := lt_below hb1 ltg; have hl1_0 := Nat.le_of_lt hz1_0; have hz1_1 : w.heap.size + 1 < w1.heap.size := lt_below hb1 ltg; have hl1_1 := Nat.le_of_lt hz1_1; have hA1 := bnext (w0 := w) bgo hb1; have hs1 := hA1.size; clear hb1)
      | (have := hA2; go_at_call 22; refine (c2 _).mono ?_; rintro r w3 ⟨rfl, hb3⟩; obtain ⟨hc3, hf3⟩ := bcell hb3; have hz3_0 : w.heap.size < w3.heap.size := lt_below hb3 ltg; have hl3_0 := Nat.le_of_lt hz3_0; have hz3_1 : w.heap.size + 1 < w3.heap.size := lt_below hb3 ltg; have hl3_1 := Nat.le_of_lt hz3_1; have hz3_2 : w1.heap.size < w3.heap.size := lt_below hb3 ltg; have hl3_2 := Nat.le_of_lt hz3_2; have hz3_3 : w1.heap.size + 1 < w3.heap.size := lt_below hb3 ltg; have hl3_3 := Nat.le_of_lt hz3_3; have hA3 := bnext (w0 := w) bgo hb3; have hs3 := hA3.size; clear hb3)
      | (go_at_call 22; refine (c1 _).mono ?_; rintro r w2 ⟨rfl, hb2⟩; obtain ⟨hc2, hf2⟩ := bcell hb2; have hz2_0 : w.heap.size < w2.heap.size := lt_below hb2 ltg; have hl2_0 := Nat.le_of_lt hz2_0; have hz2_1 : w.heap.size + 1 < w2.heap.size := lt_below hb2 ltg; have hl2_1 := Nat.le_of_lt hz2_1; have hz2_2 : w1.heap.size < w2.heap.size := lt_below hb2 ltg; have hl2_2 := Nat.le_of_lt hz2_2; have hz2_3 : w1.heap.size + 1 < w2.heap.size := lt_below hb2 ltg; have hl2_3 := Nat.le_of_lt hz2_3; have hA2 := bnext (w0 := w) bgo hb2; have hs2 := hA2.size; clear hb2)
      | (go_at_call 18; refine (c3 _).mono ?_; rintro r w4 ⟨rfl, hb4⟩; obtain ⟨hc4, hf4⟩ := bcell hb4; have hz4_0 : w.heap.size < w4.heap.size := lt_below hb4 ltg; have hl4_0 := Nat.le_of_lt hz4_0; have hz4_1 : w.heap.size + 1 < w4.heap.size := lt_below hb4 ltg; have hl4_1 := Nat.le_of_lt hz4_1; have hz4_2 : w1.heap.size < w4.heap.size := lt_below hb4 ltg; have hl4_2 := Nat.le_of_lt hz4_2; have hz4_3 : w1.heap.size + 1 < w4.heap.size := lt_below hb4 ltg; have hl4_3 := Nat.le_of_lt hz4_3; have hA4 := bnext (w0 := w) bgo hb4; have hs4 := hA4.size; clear hb4))
    exact bodyPost_ret (by simp only [results, Tryz.results16]; go_simp) rfl ⟨rfl, bgo⟩
end
section
variable (n : Int) (A B : Nat) (c x b : Int) (s g : Bool) (k : Nat) (c' x' b' : Int) (s' g' : Bool) (k' : Nat) (E : Int) (w : World) (hT : Tab w)
  (cB : ∀ W, Tab W → Calls Tryz.prog 17 #[.int .i64 n, A4 A, .int .i64 n, A4 B] W fun r w' => r = .returned (.tuple #[OV c s g x k b, OV c' s' g' x' k' b', .int .i64 E]) ∧ Below W.heap.size W w')
include hT cB
set_option maxHeartbeats 4000000 in
theorem tl_e (h : (E != 0) = true) :
    Calls Tryz.prog 10 #[.int .i64 n, A4 A, A4 B] w fun r w' => r = .returned (.tuple #[.int .i64 0, .int .i64 E]) ∧ Below w.heap.size w w' := by
  have hsm := cell_set_map
  go_enter Tryz.func10, Tryz.ntmps10
  go_wp2_with (go_at_call 17; refine (cB _ (hT.go bgo)).mono ?_; rintro r w1 ⟨rfl, hb1⟩; obtain ⟨hc1, hf1⟩ := bcell hb1; have hz1_0 : w.heap.size < w1.heap.size := lt_below hb1 ltg; have hl1_0 := Nat.le_of_lt hz1_0; have hz1_1 : w.heap.size + 1 < w1.heap.size := lt_below hb1 ltg; have hl1_1 := Nat.le_of_lt hz1_1; have hA1 := bnext (w0 := w) bgo hb1; have hs1 := hA1.size; clear hb1)
  exact bodyPost_ret (by simp only [results, Tryz.results10]; go_simp) rfl ⟨rfl, bgo⟩
set_option maxHeartbeats 4000000 in
theorem tl_v (hE : E = 0) (R : Int)
    (c3 : ∀ W, Calls Tryz.prog 18 #[OV c s g x k b, OV c' s' g' x' k' b', FnV 19] W fun r w' => r = .returned (.int .i64 R) ∧ Below W.heap.size W w') :
    Calls Tryz.prog 10 #[.int .i64 n, A4 A, A4 B] w fun r w' => r = .returned (.tuple #[.int .i64 R, .int .i64 0]) ∧ Below w.heap.size w w' := by
  subst hE
  have hsm := cell_set_map
  go_enter Tryz.func10, Tryz.ntmps10
  go_wp2_with (first
    | (go_at_call 17; refine (cB _ (hT.go bgo)).mono ?_; rintro r w1 ⟨rfl, hb1⟩; obtain ⟨hc1, hf1⟩ := bcell hb1; have hz1_0 : w.heap.size < w1.heap.size := lt_below hb1 ltg; have hl1_0 := Nat.le_of_lt hz1_0; have hz1_1 : w.heap.size + 1 < w1.heap.size := lt_below hb1 ltg; have hl1_1 := Nat.le_of_lt hz1_1; have hA1 := bnext (w0 := w) bgo hb1; have hs1 := hA1.size; clear hb1)
    | (go_at_call 18; refine (c3 _).mono ?_; rintro r w4 ⟨rfl, hb4⟩; obtain ⟨hc4, hf4⟩ := bcell hb4; have hz4_0 : w.heap.size < w4.heap.size := lt_below hb4 ltg; have hl4_0 := Nat.le_of_lt hz4_0; have hz4_1 : w.heap.size + 1 < w4.heap.size := lt_below hb4 ltg; have hl4_1 := Nat.le_of_lt hz4_1; have hz4_2 : w1.heap.size < w4.heap.size := lt_below hb4 ltg; have hl4_2 := Nat.le_of_lt hz4_2; have hz4_3 : w1.heap.size + 1 < w4.heap.size := lt_below hb4 ltg; have hl4_3 := Nat.le_of_lt hz4_3; have hA4 := bnext (w0 := w) bgo hb4; have hs4 := hA4.size; clear hb4))
  exact bodyPost_ret (by simp only [results, Tryz.results10]; go_simp) rfl ⟨rfl, bgo⟩
end
set_option maxHeartbeats 1000000 in
theorem cmp_l (n : Int) (A B : Nat) (C E : Int) (o : Bool) (w : World) (hT : Tab w)
    (c1 : ∀ W, Tab W → Calls Tryz.prog 16 #[.int .i64 n, A4 A, .int .i64 n, A4 B] W fun r w' => r = .returned (.tuple #[.int .i64 C, .bool o, .int .i64 E]) ∧ Below W.heap.size W w') :
    Calls Tryz.prog 9 #[.int .i64 n, A4 A, A4 B] w fun r w' => r = .returned (.tuple #[.int .i64 C, .bool o, .int .i64 E]) ∧ Below w.heap.size w w' := by
  have hsm := cell_set_map
  go_enter Tryz.func9, Tryz.ntmps9
  go_wp2_with (go_at_call 16; refine (c1 _ (hT.go bgo)).mono ?_; rintro r w1 ⟨rfl, hb1⟩; obtain ⟨hc1, hf1⟩ := bcell hb1; have hz1_0 : w.heap.size < w1.heap.size := lt_below hb1 ltg; have hl1_0 := Nat.le_of_lt hz1_0; have hz1_1 : w.heap.size + 1 < w1.heap.size := lt_below hb1 ltg; have hl1_1 := Nat.le_of_lt hz1_1; have hA1 := bnext (w0 := w) bgo hb1; have hs1 := hA1.size; clear hb1)
  exact bodyPost_ret (by simp only [results, Tryz.results9]; go_simp) rfl ⟨rfl, bgo⟩
end Go.Proofs.YtgknbdehlmlipabGreatDoor

namespace Go.Proofs.YtgknbdehlmlipabGreatDoor
open Go.RowKit
attribute [local irreducible] W4 Nt Nz NT
theorem mE_or (n : Int) (B : Nat) : mE n B = 0 ∨ mE n B = 1 := by
  unfold mE unE vUE
  split <;> split <;> simp
abbrev ODv (d : Dat) (X : Nat) : Value := OV d.c d.s d.g d.x d.k ((X : Nat) : Int)
theorem both_no {f n : Int} {A B : Nat} (hA : A < 2 ^ 256) (hB : B < 2 ^ 256) (w : World) (hT : Tab w) (h : mE f A ≠ 0 ∨ mE n B ≠ 0) :
    ∃ c s g x k b c' s' g' x' k' b', ∀ W, Tab W → Calls Tryz.prog 17 #[.int .i64 f, A4 A, .int .i64 n, A4 B] W fun r w' => r = .returned (.tuple #[OV c s g x k b, OV c' s' g' x' k' b', .int .i64 1]) ∧ Below W.heap.size W w' := by
  obtain ⟨c, s, g, x, k, b, _, cU⟩ := unp_v f A w hT hA
  obtain ⟨c', s', g', x', k', b', _, cV⟩ := unp_v n B w hT hB
  rcases mE_or f A with h1 | h1
  · rcases mE_or n B with h2 | h2
    · omega
    · rw [h1] at cU
      rw [h2] at cV
      exact ⟨c, s, g, x, k, b, c', s', g', x', k', b', fun W hW => both_k f n A B c x b s g k c' x' b' s' g' k' 0 1 W hW cU cV rfl⟩
  · rw [h1] at cU
    exact ⟨c, s, g, x, k, b, 0, false, false, 0, 0, 0, fun W hW => both_e f n A B c x b s g k 1 W hW cU rfl⟩
theorem both_yes {f n : Int} {A B : Nat} (hA : A < 2 ^ 256) (hB : B < 2 ^ 256) (w : World) (hT : Tab w) (h1 : mE f A = 0) (h2 : mE n B = 0) :
    ∀ W, Tab W → Calls Tryz.prog 17 #[.int .i64 f, A4 A, .int .i64 n, A4 B] W fun r w' => r = .returned (.tuple #[ODv (mD f A) (mX f), ODv (mD n B) (mX n), .int .i64 0]) ∧ Below W.heap.size W w' := by
  obtain ⟨c, s, g, x, k, b, e1, cU⟩ := unp_v f A w hT hA
  obtain ⟨c', s', g', x', k', b', e2, cV⟩ := unp_v n B w hT hB
  rw [e1 h1, h1] at cU
  rw [e2 h2, h2] at cV
  exact fun W hW => both_k f n A B _ _ _ _ _ _ _ _ _ _ _ _ 0 0 W hW cU cV rfl
theorem mD_c {n : Int} {B : Nat} (h : mE n B = 0) : (mD n B).c = 1 ∨ (mD n B).c = 2 ∨ (mD n B).c = 3 := by
  rcases mD_K h with ⟨q, _⟩ | ⟨q, _⟩ | ⟨q, _⟩ <;> omega
theorem szD_v {a b : Dat} {X Y : Nat} (hX : X = 2 ∨ X = 10) (hY : Y = 2 ∨ Y = 10) (hc : a.c = 1 ∨ a.c = 2) (hc' : b.c = 1 ∨ b.c = 2) (hk : a.k < 2 ^ 256) (hk' : b.k < 2 ^ 256)
    (hx : (-17000 ≤ a.x ∧ a.x ≤ 17000) ∧ (X = 10 → -10000 ≤ a.x ∧ a.x ≤ 10000)) (hy : (-17000 ≤ b.x ∧ b.x ≤ 17000) ∧ (Y = 10 → -10000 ≤ b.x ∧ b.x ≤ 10000)) (W : World) :
    Calls Tryz.prog 26 #[ODv a X, ODv b Y] W fun r w' => r = .returned (.int .i64 (szD a X b Y)) ∧ Below W.heap.size W w' :=
  osz_v hX hY rfl rfl hc hc' hk hk' (by omega) (by omega) hx.2 hy.2 W
theorem ord_mx (f : Int) (A : Nat) (n : Int) (B : Nat) (w : World) (hA : A < 2 ^ 256) (hB : B < 2 ^ 256) (hT : Tab w) :
    Calls Tryz.prog 16 #[.int .i64 f, A4 A, .int .i64 n, A4 B] w fun r w' => r = .returned (.tuple #[.int .i64 (oMc f A n B), .bool (oMo f A n B), .int .i64 (oME f A n B)]) ∧ Below w.heap.size w w' := by
  unfold oMc oMo oME
  by_cases h : mE f A ≠ 0 ∨ mE n B ≠ 0
  · rw [if_pos h, if_pos h, if_pos h]
    obtain ⟨c, s, g, x, k, b, c', s', g', x', k', b', cB⟩ := both_no hA hB w hT h
    exact mx_e f n A B c x b s g k c' x' b' s' g' k' 1 w hT cB (Or.inl rfl)
  · have h1 : mE f A = 0 := Classical.byContradiction fun q => h (Or.inl q)
    have h2 : mE n B = 0 := Classical.byContradiction fun q => h (Or.inr q)
    rw [if_neg h, if_neg h, if_neg h]
    have cB := both_yes hA hB w hT h1 h2
    have ka := mD_256 f A
    have kb := mD_256 n B
    have ca := mD_c h1
    have cb := mD_c h2
    have xa := mD_x f A
    have xb := mD_x n B
    have Xa := mX_or f
    have Xb := mX_or n
    generalize mD f A = a at *
    generalize mD n B = d at *
    generalize mX f = X at *
    generalize mX n = Y at *
    by_cases h3 : a.c = 3 ∨ d.c = 3
    · rw [if_pos h3, if_pos h3]
      refine mx_e f n A B _ _ _ _ _ _ _ _ _ _ _ _ 0 w hT cB (Or.inr ⟨rfl, rfl, ?_⟩)
      by_cases q : a.c = 3
      · exact Or.inl (by rw [q]; rfl)
      · exact Or.inr ⟨by simpa using q, by rw [h3.resolve_left q]; rfl⟩
    · rw [if_neg h3, if_neg h3]
      have ha2 : a.c = 1 ∨ a.c = 2 := by omega
      have hb2 : d.c = 1 ∨ d.c = 2 := by omega
      have e3 : (a.c == 3) = false := by simpa using fun q => h3 (Or.inl q)
      have e4 : (d.c == 3) = false := by simpa using fun q => h3 (Or.inr q)
      have c1 := fun W => ont_v a.c a.x ((X : Nat) : Int) a.s a.g a.k ka W
      have c2 := fun W => ont_v d.c d.x ((Y : Nat) : Int) d.s d.g d.k kb W
      by_cases hna : nghtD a
      · by_cases hnb : nghtD d
        · rw [oV_nn hna hnb]
          have d1 : decide (a.c = 1 ∧ a.k = 0) = true := decide_eq_true hna
          have d2 : decide (d.c = 1 ∧ d.k = 0) = true := decide_eq_true hnb
          rw [d1] at c1
          rw [d2] at c2
          exact mx_0 f n A B _ _ _ _ _ _ _ _ _ _ _ _ 0 w hT cB rfl e3 e4 c1 c2
        · rw [← oV_sg ha2 hb2 (fun q => hnb q.2)]
          exact mx_v f n A B _ _ _ _ _ _ _ _ _ _ _ _ 0 w hT cB rfl e3 e4 _ _ (Or.inr ⟨decide_eq_true hna, decide_eq_false hnb⟩) _ c1 c2 (fun W => sg_s _ _ _ _ _ _ _ _ _ _ _ _ _ _ W (fun W => szD_v Xa Xb ha2 hb2 ka kb xa xb W) (fun W => szD_v Xb Xa hb2 ha2 kb ka xb xa W))
      · rw [← oV_sg ha2 hb2 (fun q => hna q.1)]
        exact mx_v f n A B _ _ _ _ _ _ _ _ _ _ _ _ 0 w hT cB rfl e3 e4 _ _ (Or.inl (decide_eq_false hna)) _ c1 c2 (fun W => sg_s _ _ _ _ _ _ _ _ _ _ _ _ _ _ W (fun W => szD_v Xa Xb ha2 hb2 ka kb xa xb W) (fun W => szD_v Xb Xa hb2 ha2 kb ka xb xa W))
theorem outD_v {a b : Dat} {X : Nat} (hX : X = 2 ∨ X = 10) (hc : a.c = 1 ∨ a.c = 2 ∨ a.c = 3) (hc' : b.c = 1 ∨ b.c = 2 ∨ b.c = 3) (hk : a.k < 2 ^ 256) (hk' : b.k < 2 ^ 256)
    (hx : (-17000 ≤ a.x ∧ a.x ≤ 17000) ∧ (X = 10 → -10000 ≤ a.x ∧ a.x ≤ 10000)) (hy : (-17000 ≤ b.x ∧ b.x ≤ 17000) ∧ (X = 10 → -10000 ≤ b.x ∧ b.x ≤ 10000)) (W : World) :
    Calls Tryz.prog 19 #[ODv a X, ODv b X] W fun r w' => r = .returned (.int .i64 (outD a b X)) ∧ Below W.heap.size W w' := by
  unfold outD
  by_cases h : a.c ≠ b.c
  · rw [if_pos h]
    exact ow_c _ _ _ _ _ _ _ _ _ _ _ _ W (by simpa using h)
  · rw [if_neg h]
    have h' : a.c = b.c := Classical.byContradiction h
    have e1 : (a.c != b.c) = false := by simpa using h'
    by_cases h3 : a.c ≠ 3
    · rw [if_pos h3]
      exact ow_n _ _ _ _ _ _ _ _ _ _ _ _ W e1 (by simpa using h3) _ (fun W => szD_v hX hX (by omega) (by omega) hk hk' hx hy W)
    · rw [if_neg h3]
      have e3 : (a.c != 3) = false := by simpa using h3
      by_cases hg : a.g ≠ b.g
      · rw [if_pos hg]
        refine ow_s _ _ _ _ _ _ _ _ _ _ _ _ W e1 e3 _ ?_
        revert hg
        cases a.g <;> cases b.g <;> simp
      · rw [if_neg hg]
        exact ow_p _ _ _ _ _ _ hk _ _ _ _ _ _ hk' W e1 e3 (Classical.byContradiction hg) _ (fun W v v' hv hv' => ncmp_v (by decide) (by decide) hv hv')
theorem ord_tl (n : Int) (A : Nat) (B : Nat) (w : World) (hA : A < 2 ^ 256) (hB : B < 2 ^ 256) (hT : Tab w) :
    Calls Tryz.prog 10 #[.int .i64 n, A4 A, A4 B] w fun r w' => r = .returned (.tuple #[.int .i64 (oTc n A B), .int .i64 (oTE n A B)]) ∧ Below w.heap.size w w' := by
  unfold oTc oTE
  by_cases h : mE n A ≠ 0 ∨ mE n B ≠ 0
  · rw [if_pos h, if_pos h]
    obtain ⟨c, s, g, x, k, b, c', s', g', x', k', b', cB⟩ := both_no hA hB w hT h
    exact tl_e n A B c x b s g k c' x' b' s' g' k' 1 w hT cB rfl
  · have h1 : mE n A = 0 := Classical.byContradiction fun q => h (Or.inl q)
    have h2 : mE n B = 0 := Classical.byContradiction fun q => h (Or.inr q)
    rw [if_neg h, if_neg h]
    have cB := both_yes hA hB w hT h1 h2
    have ka := mD_256 n A
    have kb := mD_256 n B
    have ca := mD_c h1
    have cb := mD_c h2
    have xa := mD_x n A
    have xb := mD_x n B
    have Xa := mX_or n
    rw [← oT_sg ca cb]
    exact tl_v n A B _ _ _ _ _ _ _ _ _ _ _ _ 0 w hT cB rfl _ (fun W => sg_o _ _ _ _ _ _ _ _ _ _ _ _ _ _ W (fun W => outD_v Xa ca cb ka kb xa xb W) (fun W => outD_v Xa cb ca kb ka xb xa W))
theorem ordC : OrdC Tab := ⟨fun w w' h hb => h.go hb, fun n Ar Br W hA hB hT => cmp_l n Ar Br _ _ _ W hT (fun W' hT' => ord_mx n Ar n Br W' hA hB hT')⟩
theorem ordT : OrdT Tab := ⟨fun n Ar Br W hA hB hT => ord_tl n Ar Br W hA hB hT⟩
end Go.Proofs.YtgknbdehlmlipabGreatDoor

namespace Go.Proofs.YtgknbdehlmlipabGreatDoor
open Go.RowKit
/-- what order's Next answers -/
structure OrdN (TT : World → Prop) : Prop where
  nx : ∀ n B up W, B < 2 ^ 256 → TT W → Calls Tryz.prog 11 #[.int .i64 n, A4 B, .bool up] W fun r w' => r = .returned (.tuple #[A4 (nxV n B up), .int .i64 (nxF n B), .int .i64 (nxE n B)]) ∧ Below W.heap.size W w'
attribute [local irreducible] W4
end Go.Proofs.YtgknbdehlmlipabGreatDoor

namespace Go.Proofs.YtgknbdehlmlipabGreatDoor
open Go.RowKit
attribute [local irreducible] W4 Nt Nz NT
set_option maxHeartbeats 2000000 in
theorem oq_l (n : Int) (B : Nat) (z : Bool) (Q : Nat) (E : Int) (w : World) (hT : Tab w)
    (c1 : ∀ W, Tab W → Calls Tryz.prog 33 #[.int .i64 n, A4 B] W fun r w' => r = .returned (.tuple #[A4 Q, .int .i64 E]) ∧ Below W.heap.size W w') :
    Calls Tryz.prog 21 #[.int .i64 n, A4 B, .bool z] w fun r w' => r = .returned (.tuple #[A4 Q, .int .i64 (if z then 1 else 0), .int .i64 E]) ∧ Below w.heap.size w w' := by
  have hsm := cell_set_map
  cases z
  all_goals
    go_enter Tryz.func21, Tryz.ntmps21
    go_wp2_with (go_at_call 33; refine (c1 _ (hT.go bgo)).mono ?_; rintro r w1 ⟨rfl, hb1⟩; obtain ⟨hc1, hf1⟩ := bcell hb1; have hz1_0 : w.heap.size < w1.heap.size := lt_below hb1 ltg; have hl1_0 := Nat.le_of_lt hz1_0; have hz1_1 : w.heap.size + 1 < w1.heap.size := lt_below hb1 ltg; have hl1_1 := Nat.le_of_lt hz1_1; have hA1 := bnext (w0 := w) bgo hb1; have hs1 := hA1.size; clear hb1)
    exact bodyPost_ret (by simp only [results, Tryz.results21]; go_simp) rfl ⟨rfl, bgo⟩
theorem w4_one : W4 1 0 = 1 ∧ W4 1 1 = 0 ∧ W4 1 2 = 0 ∧ W4 1 3 = 0 := by unfold W4; decide
set_option maxHeartbeats 2000000 in
theorem osm_l (n : Int) (z : Bool) (V : Nat) (E F b num wi pr ex le mo pa : Int) (nm : ByteArray) (de : Bool) (w : World) (hT : Tab w)
    (c1 : ∀ W, Tab W → Calls Tryz.prog 30 #[.int .i64 n] W fun r w' => r = .returned (.tuple #[.agg #[.int .i64 num, .string nm, .int .i64 b, .int .i64 wi, .int .i64 pr, .int .i64 ex, .int .i64 le, .int .i64 mo, .int .i64 pa, .bool de], .int .i64 F]) ∧ Below W.heap.size W w')
    (c2 : ∀ W, Tab W → Calls Tryz.prog 35 #[.int .i64 n, DV 1 z false le 1] W fun r w' => r = .returned (.tuple #[A4 V, .int .i64 E]) ∧ Below W.heap.size W w') :
    Calls Tryz.prog 23 #[.int .i64 n, .bool z] w fun r w' => r = .returned (A4 V) ∧ Below w.heap.size w w' := by
  have hsm := cell_set_map
  obtain ⟨z0, z1, z2, z3⟩ := w4_one
  unfold DV at c2
  rw [z0, z1, z2, z3] at c2
  go_enter Tryz.func23, Tryz.ntmps23
  go_wp2_with (first
    | (go_at_call 30; refine (c1 _ (hT.go bgo)).mono ?_; rintro r w1 ⟨rfl, hb1⟩; obtain ⟨hc1, hf1⟩ := bcell hb1; have hz1_0 : w.heap.size < w1.heap.size := lt_below hb1 ltg; have hl1_0 := Nat.le_of_lt hz1_0; have hA1 := bnext (w0 := w) bgo hb1; have hs1 := hA1.size; clear hb1)
    | (go_at_call 35; refine (c2 _ (hT.go bgo)).mono ?_; rintro r w2 ⟨rfl, hb2⟩; obtain ⟨hc2, hf2⟩ := bcell hb2; have hz2_0 : w.heap.size < w2.heap.size := lt_below hb2 ltg; have hl2_0 := Nat.le_of_lt hz2_0; have hz2_1 : w1.heap.size < w2.heap.size := lt_below hb2 ltg; have hl2_1 := Nat.le_of_lt hz2_1; have hA2 := bnext (w0 := w) bgo hb2; have hs2 := hA2.size; clear hb2))
  exact bodyPost_ret (by simp only [results, Tryz.results23]; go_simp) rfl ⟨rfl, bgo⟩
section
variable (B : Nat) (c x b : Int) (s g : Bool) (k : Nat) (up : Bool) (w : World)
  (c1 : ∀ W, Calls Tryz.prog 36 #[.int .u64 1] W fun r w' => r = .returned (A4 1) ∧ Below W.heap.size W w')
include c1
set_option maxHeartbeats 8000000 in
theorem st_tt (V : Nat) (C : Int) 
    (c2 : ∀ W, Calls Tryz.prog 37 #[A4 B, A4 1] W fun r w' => r = .returned (.tuple #[A4 V, .int .u64 C]) ∧ Below W.heap.size W w') :
    Calls Tryz.prog 24 #[A4 B, OV c true g x k b, .bool true] w fun r w' => r = .returned (A4 V) ∧ Below w.heap.size w w' := by
  have hsm := cell_set_map
  unfold A4 at *
  go_enter Tryz.func24, Tryz.ntmps24
  go_wp2
  refine regSt (ga := w.heap.size) (X4 := B) rfl rfl (by first | omega | (simp; omega) | simp) (by go_simp) (by go_simp) (by go_simp) (by go_simp) c1 ?_
  intro a' w4 p q h7 h8 hne hp hq hP hO hsz hdf hF2 hb4
  have ha := act_of slotsSt 5 rfl hsz hdf hF2
  rw [ha]
  simp only [slotsSt, List.foldl_cons, List.foldl_nil, Act.put, List.setIfInBounds_toArray, List.set_cons_succ, List.set_cons_zero, h7, h8]
  generalize slot a' 9 = s9
  generalize slot a' 10 = s10
  generalize slot a' 0 = s0
  clear ha h7 h8 hsz hdf hF2
  have hp' : w.heap.size + 1 + 1 + 1 ≤ p := by simpa using hp
  have hq' : w.heap.size + 1 + 1 + 1 ≤ q := by simpa using hq
  clear hp hq
  obtain ⟨lp, p0, p1, p2, p3, y0, y1, y2, y3⟩ := hP
  obtain ⟨lq, q0, q1, q2, q3, u0, u1, u2, u3⟩ := hO
  obtain ⟨hc4, hf4⟩ := bcell hb4; have hz4_0 : w.heap.size < w4.heap.size := lt_below hb4 ltg; have hl4_0 := Nat.le_of_lt hz4_0; have hz4_1 : w.heap.size + 1 < w4.heap.size := lt_below hb4 ltg; have hl4_1 := Nat.le_of_lt hz4_1; have hz4_2 : w.heap.size + 1 + 1 < w4.heap.size := lt_below hb4 ltg; have hl4_2 := Nat.le_of_lt hz4_2; have hA4 := bnext (w0 := w) bgo hb4; have hs4 := hA4.size; clear hb4
  go_wp2_with (go_at_call 37; refine (c2 _).mono ?_; rintro r w5 ⟨rfl, hb5⟩; obtain ⟨hc5, hf5⟩ := bcell hb5; have hz5_0 : w.heap.size < w5.heap.size := lt_below hb5 ltg; have hl5_0 := Nat.le_of_lt hz5_0; have hz5_1 : w.heap.size + 1 < w5.heap.size := lt_below hb5 ltg; have hl5_1 := Nat.le_of_lt hz5_1; have hz5_2 : w.heap.size + 1 + 1 < w5.heap.size := lt_below hb5 ltg; have hl5_2 := Nat.le_of_lt hz5_2; have hz5_3 : p < w5.heap.size := lt_below hb5 ltg; have hl5_3 := Nat.le_of_lt hz5_3; have hz5_4 : q < w5.heap.size := lt_below hb5 ltg; have hl5_4 := Nat.le_of_lt hz5_4; have hA5 := bnext (w0 := w) bgo hb5; have hs5 := hA5.size; clear hb5)
  exact bodyPost_ret (by simp only [results, Tryz.results24]; go_simp) rfl ⟨rfl, bgo⟩
set_option maxHeartbeats 8000000 in
theorem st_ff (V : Nat) (C : Int) 
    (c2 : ∀ W, Calls Tryz.prog 37 #[A4 B, A4 1] W fun r w' => r = .returned (.tuple #[A4 V, .int .u64 C]) ∧ Below W.heap.size W w') :
    Calls Tryz.prog 24 #[A4 B, OV c false g x k b, .bool false] w fun r w' => r = .returned (A4 V) ∧ Below w.heap.size w w' := by
  have hsm := cell_set_map
  unfold A4 at *
  go_enter Tryz.func24, Tryz.ntmps24
  go_wp2
  refine regSt (ga := w.heap.size) (X4 := B) rfl rfl (by first | omega | (simp; omega) | simp) (by go_simp) (by go_simp) (by go_simp) (by go_simp) c1 ?_
  intro a' w4 p q h7 h8 hne hp hq hP hO hsz hdf hF2 hb4
  have ha := act_of slotsSt 5 rfl hsz hdf hF2
  rw [ha]
  simp only [slotsSt, List.foldl_cons, List.foldl_nil, Act.put, List.setIfInBounds_toArray, List.set_cons_succ, List.set_cons_zero, h7, h8]
  generalize slot a' 9 = s9
  generalize slot a' 10 = s10
  generalize slot a' 0 = s0
  clear ha h7 h8 hsz hdf hF2
  have hp' : w.heap.size + 1 + 1 + 1 ≤ p := by simpa using hp
  have hq' : w.heap.size + 1 + 1 + 1 ≤ q := by simpa using hq
  clear hp hq
  obtain ⟨lp, p0, p1, p2, p3, y0, y1, y2, y3⟩ := hP
  obtain ⟨lq, q0, q1, q2, q3, u0, u1, u2, u3⟩ := hO
  obtain ⟨hc4, hf4⟩ := bcell hb4; have hz4_0 : w.heap.size < w4.heap.size := lt_below hb4 ltg; have hl4_0 := Nat.le_of_lt hz4_0; have hz4_1 : w.heap.size + 1 < w4.heap.size := lt_below hb4 ltg; have hl4_1 := Nat.le_of_lt hz4_1; have hz4_2 : w.heap.size + 1 + 1 < w4.heap.size := lt_below hb4 ltg; have hl4_2 := Nat.le_of_lt hz4_2; have hA4 := bnext (w0 := w) bgo hb4; have hs4 := hA4.size; clear hb4
  go_wp2_with (go_at_call 37; refine (c2 _).mono ?_; rintro r w5 ⟨rfl, hb5⟩; obtain ⟨hc5, hf5⟩ := bcell hb5; have hz5_0 : w.heap.size < w5.heap.size := lt_below hb5 ltg; have hl5_0 := Nat.le_of_lt hz5_0; have hz5_1 : w.heap.size + 1 < w5.heap.size := lt_below hb5 ltg; have hl5_1 := Nat.le_of_lt hz5_1; have hz5_2 : w.heap.size + 1 + 1 < w5.heap.size := lt_below hb5 ltg; have hl5_2 := Nat.le_of_lt hz5_2; have hz5_3 : p < w5.heap.size := lt_below hb5 ltg; have hl5_3 := Nat.le_of_lt hz5_3; have hz5_4 : q < w5.heap.size := lt_below hb5 ltg; have hl5_4 := Nat.le_of_lt hz5_4; have hA5 := bnext (w0 := w) bgo hb5; have hs5 := hA5.size; clear hb5)
  exact bodyPost_ret (by simp only [results, Tryz.results24]; go_simp) rfl ⟨rfl, bgo⟩
set_option maxHeartbeats 8000000 in
theorem st_tf (V : Nat) (C : Int) (hc : (c == 2) = false)
    (c2 : ∀ W, Calls Tryz.prog 38 #[A4 B, A4 1] W fun r w' => r = .returned (.tuple #[A4 V, .int .u64 C]) ∧ Below W.heap.size W w') :
    Calls Tryz.prog 24 #[A4 B, OV c true g x k b, .bool false] w fun r w' => r = .returned (A4 V) ∧ Below w.heap.size w w' := by
  have hsm := cell_set_map
  unfold A4 at *
  go_enter Tryz.func24, Tryz.ntmps24
  go_wp2
  refine regSt (ga := w.heap.size) (X4 := B) rfl rfl (by first | omega | (simp; omega) | simp) (by go_simp) (by go_simp) (by go_simp) (by go_simp) c1 ?_
  intro a' w4 p q h7 h8 hne hp hq hP hO hsz hdf hF2 hb4
  have ha := act_of slotsSt 5 rfl hsz hdf hF2
  rw [ha]
  simp only [slotsSt, List.foldl_cons, List.foldl_nil, Act.put, List.setIfInBounds_toArray, List.set_cons_succ, List.set_cons_zero, h7, h8]
  generalize slot a' 9 = s9
  generalize slot a' 10 = s10
  generalize slot a' 0 = s0
  clear ha h7 h8 hsz hdf hF2
  have hp' : w.heap.size + 1 + 1 + 1 ≤ p := by simpa using hp
  have hq' : w.heap.size + 1 + 1 + 1 ≤ q := by simpa using hq
  clear hp hq
  obtain ⟨lp, p0, p1, p2, p3, y0, y1, y2, y3⟩ := hP
  obtain ⟨lq, q0, q1, q2, q3, u0, u1, u2, u3⟩ := hO
  obtain ⟨hc4, hf4⟩ := bcell hb4; have hz4_0 : w.heap.size < w4.heap.size := lt_below hb4 ltg; have hl4_0 := Nat.le_of_lt hz4_0; have hz4_1 : w.heap.size + 1 < w4.heap.size := lt_below hb4 ltg; have hl4_1 := Nat.le_of_lt hz4_1; have hz4_2 : w.heap.size + 1 + 1 < w4.heap.size := lt_below hb4 ltg; have hl4_2 := Nat.le_of_lt hz4_2; have hA4 := bnext (w0 := w) bgo hb4; have hs4 := hA4.size; clear hb4
  go_wp2_with (go_at_call 38; refine (c2 _).mono ?_; rintro r w5 ⟨rfl, hb5⟩; obtain ⟨hc5, hf5⟩ := bcell hb5; have hz5_0 : w.heap.size < w5.heap.size := lt_below hb5 ltg; have hl5_0 := Nat.le_of_lt hz5_0; have hz5_1 : w.heap.size + 1 < w5.heap.size := lt_below hb5 ltg; have hl5_1 := Nat.le_of_lt hz5_1; have hz5_2 : w.heap.size + 1 + 1 < w5.heap.size := lt_below hb5 ltg; have hl5_2 := Nat.le_of_lt hz5_2; have hz5_3 : p < w5.heap.size := lt_below hb5 ltg; have hl5_3 := Nat.le_of_lt hz5_3; have hz5_4 : q < w5.heap.size := lt_below hb5 ltg; have hl5_4 := Nat.le_of_lt hz5_4; have hA5 := bnext (w0 := w) bgo hb5; have hs5 := hA5.size; clear hb5)
  exact bodyPost_ret (by simp only [results, Tryz.results24]; go_simp) rfl ⟨rfl, bgo⟩
set_option maxHeartbeats 8000000 in
theorem st_ft (V : Nat) (C : Int) (hc : (c == 2) = false)
    (c2 : ∀ W, Calls Tryz.prog 38 #[A4 B, A4 1] W fun r w' => r = .returned (.tuple #[A4 V, .int .u64 C]) ∧ Below W.heap.size W w') :
    Calls Tryz.prog 24 #[A4 B, OV c false g x k b, .bool true] w fun r w' => r = .returned (A4 V) ∧ Below w.heap.size w w' := by
  have hsm := cell_set_map
  unfold A4 at *
  go_enter Tryz.func24, Tryz.ntmps24
  go_wp2
  refine regSt (ga := w.heap.size) (X4 := B) rfl rfl (by first | omega | (simp; omega) | simp) (by go_simp) (by go_simp) (by go_simp) (by go_simp) c1 ?_
  intro a' w4 p q h7 h8 hne hp hq hP hO hsz hdf hF2 hb4
  have ha := act_of slotsSt 5 rfl hsz hdf hF2
  rw [ha]
  simp only [slotsSt, List.foldl_cons, List.foldl_nil, Act.put, List.setIfInBounds_toArray, List.set_cons_succ, List.set_cons_zero, h7, h8]
  generalize slot a' 9 = s9
  generalize slot a' 10 = s10
  generalize slot a' 0 = s0
  clear ha h7 h8 hsz hdf hF2
  have hp' : w.heap.size + 1 + 1 + 1 ≤ p := by simpa using hp
  have hq' : w.heap.size + 1 + 1 + 1 ≤ q := by simpa using hq
  clear hp hq
  obtain ⟨lp, p0, p1, p2, p3, y0, y1, y2, y3⟩ := hP
  obtain ⟨lq, q0, q1, q2, q3, u0, u1, u2, u3⟩ := hO
  obtain ⟨hc4, hf4⟩ := bcell hb4; have hz4_0 : w.heap.size < w4.heap.size := lt_below hb4 ltg; have hl4_0 := Nat.le_of_lt hz4_0; have hz4_1 : w.heap.size + 1 < w4.heap.size := lt_below hb4 ltg; have hl4_1 := Nat.le_of_lt hz4_1; have hz4_2 : w.heap.size + 1 + 1 < w4.heap.size := lt_below hb4 ltg; have hl4_2 := Nat.le_of_lt hz4_2; have hA4 := bnext (w0 := w) bgo hb4; have hs4 := hA4.size; clear hb4
  go_wp2_with (go_at_call 38; refine (c2 _).mono ?_; rintro r w5 ⟨rfl, hb5⟩; obtain ⟨hc5, hf5⟩ := bcell hb5; have hz5_0 : w.heap.size < w5.heap.size := lt_below hb5 ltg; have hl5_0 := Nat.le_of_lt hz5_0; have hz5_1 : w.heap.size + 1 < w5.heap.size := lt_below hb5 ltg; have hl5_1 := Nat.le_of_lt hz5_1; have hz5_2 : w.heap.size + 1 + 1 < w5.heap.size := lt_below hb5 ltg; have hl5_2 := Nat.le_of_lt hz5_2; have hz5_3 : p < w5.heap.size := lt_below hb5 ltg; have hl5_3 := Nat.le_of_lt hz5_3; have hz5_4 : q < w5.heap.size := lt_below hb5 ltg; have hl5_4 := Nat.le_of_lt hz5_4; have hA5 := bnext (w0 := w) bgo hb5; have hs5 := hA5.size; clear hb5)
  exact bodyPost_ret (by simp only [results, Tryz.results24]; go_simp) rfl ⟨rfl, bgo⟩
set_option maxHeartbeats 8000000 in
theorem st_tf2 (hc : (c == 2) = true) :
    Calls Tryz.prog 24 #[A4 B, OV c true g x k b, .bool false] w fun r w' => r = .returned (A4 B) ∧ Below w.heap.size w w' := by
  have hsm := cell_set_map
  unfold A4 at *
  go_enter Tryz.func24, Tryz.ntmps24
  go_wp2
  refine regSt (ga := w.heap.size) (X4 := B) rfl rfl (by first | omega | (simp; omega) | simp) (by go_simp) (by go_simp) (by go_simp) (by go_simp) c1 ?_
  intro a' w4 p q h7 h8 hne hp hq hP hO hsz hdf hF2 hb4
  have ha := act_of slotsSt 5 rfl hsz hdf hF2
  rw [ha]
  simp only [slotsSt, List.foldl_cons, List.foldl_nil, Act.put, List.setIfInBounds_toArray, List.set_cons_succ, List.set_cons_zero, h7, h8]
  generalize slot a' 9 = s9
  generalize slot a' 10 = s10
  generalize slot a' 0 = s0
  clear ha h7 h8 hsz hdf hF2
  have hp' : w.heap.size + 1 + 1 + 1 ≤ p := by simpa using hp
  have hq' : w.heap.size + 1 + 1 + 1 ≤ q := by simpa using hq
  clear hp hq
  obtain ⟨lp, p0, p1, p2, p3, y0, y1, y2, y3⟩ := hP
  obtain ⟨lq, q0, q1, q2, q3, u0, u1, u2, u3⟩ := hO
  obtain ⟨hc4, hf4⟩ := bcell hb4; have hz4_0 : w.heap.size < w4.heap.size := lt_below hb4 ltg; have hl4_0 := Nat.le_of_lt hz4_0; have hz4_1 : w.heap.size + 1 < w4.heap.size := lt_below hb4 ltg; have hl4_1 := Nat.le_of_lt hz4_1; have hz4_2 : w.heap.size + 1 + 1 < w4.heap.size := lt_below hb4 ltg; have hl4_2 := Nat.le_of_lt hz4_2; have hA4 := bnext (w0 := w) bgo hb4; have hs4 := hA4.size; clear hb4
  go_wp2
  exact bodyPost_ret (by simp only [results, Tryz.results24]; go_simp) rfl ⟨rfl, bgo⟩
set_option maxHeartbeats 8000000 in
theorem st_ft2 (hc : (c == 2) = true) :
    Calls Tryz.prog 24 #[A4 B, OV c false g x k b, .bool true] w fun r w' => r = .returned (A4 B) ∧ Below w.heap.size w w' := by
  have hsm := cell_set_map
  unfold A4 at *
  go_enter Tryz.func24, Tryz.ntmps24
  go_wp2
  refine regSt (ga := w.heap.size) (X4 := B) rfl rfl (by first | omega | (simp; omega) | simp) (by go_simp) (by go_simp) (by go_simp) (by go_simp) c1 ?_
  intro a' w4 p q h7 h8 hne hp hq hP hO hsz hdf hF2 hb4
  have ha := act_of slotsSt 5 rfl hsz hdf hF2
  rw [ha]
  simp only [slotsSt, List.foldl_cons, List.foldl_nil, Act.put, List.setIfInBounds_toArray, List.set_cons_succ, List.set_cons_zero, h7, h8]
  generalize slot a' 9 = s9
  generalize slot a' 10 = s10
  generalize slot a' 0 = s0
  clear ha h7 h8 hsz hdf hF2
  have hp' : w.heap.size + 1 + 1 + 1 ≤ p := by simpa using hp
  have hq' : w.heap.size + 1 + 1 + 1 ≤ q := by simpa using hq
  clear hp hq
  obtain ⟨lp, p0, p1, p2, p3, y0, y1, y2, y3⟩ := hP
  obtain ⟨lq, q0, q1, q2, q3, u0, u1, u2, u3⟩ := hO
  obtain ⟨hc4, hf4⟩ := bcell hb4; have hz4_0 : w.heap.size < w4.heap.size := lt_below hb4 ltg; have hl4_0 := Nat.le_of_lt hz4_0; have hz4_1 : w.heap.size + 1 < w4.heap.size := lt_below hb4 ltg; have hl4_1 := Nat.le_of_lt hz4_1; have hz4_2 : w.heap.size + 1 + 1 < w4.heap.size := lt_below hb4 ltg; have hl4_2 := Nat.le_of_lt hz4_2; have hA4 := bnext (w0 := w) bgo hb4; have hs4 := hA4.size; clear hb4
  go_wp2
  exact bodyPost_ret (by simp only [results, Tryz.results24]; go_simp) rfl ⟨rfl, bgo⟩
end
end Go.Proofs.YtgknbdehlmlipabGreatDoor

namespace Go.Proofs.YtgknbdehlmlipabGreatDoor
open Go.RowKit
attribute [local irreducible] W4 Nt Nz NT
section
variable (n : Int) (B : Nat) (up : Bool) (c x b : Int) (s g : Bool) (k : Nat) (w : World) (hT : Tab w)
include hT
set_option maxHeartbeats 4000000 in
theorem on_e
    (c1 : ∀ W, Tab W → Calls Tryz.prog 20 #[.int .i64 n, A4 B] W fun r w' => r = .returned (.tuple #[OV c s g x k b, .int .i64 1]) ∧ Below W.heap.size W w') :
    Calls Tryz.prog 11 #[.int .i64 n, A4 B, .bool up] w fun r w' => r = .returned (.tuple #[A4 0, .int .i64 0, .int .i64 1]) ∧ Below w.heap.size w w' := by
  rw [Z4_eq]
  have hsm := cell_set_map
  go_enter Tryz.func11, Tryz.ntmps11
  go_wp2_with (go_at_call 20; refine (c1 _ (hT.go bgo)).mono ?_; rintro r w1 ⟨rfl, hb1⟩; obtain ⟨hc1, hf1⟩ := bcell hb1; have hz1_0 : w.heap.size < w1.heap.size := lt_below hb1 ltg; have hl1_0 := Nat.le_of_lt hz1_0; have hz1_1 : w.heap.size + 1 < w1.heap.size := lt_below hb1 ltg; have hl1_1 := Nat.le_of_lt hz1_1; have hA1 := bnext (w0 := w) bgo hb1; have hs1 := hA1.size; clear hb1)
  exact bodyPost_ret (by simp only [results, Tryz.results11]; go_simp) rfl ⟨rfl, bgo⟩
variable (c1 : ∀ W, Tab W → Calls Tryz.prog 20 #[.int .i64 n, A4 B] W fun r w' => r = .returned (.tuple #[OV c s g x k b, .int .i64 0]) ∧ Below W.heap.size W w')
include c1
set_option maxHeartbeats 4000000 in
theorem on_d (hb : (b != 2) = true) :
    Calls Tryz.prog 11 #[.int .i64 n, A4 B, .bool up] w fun r w' => r = .returned (.tuple #[A4 0, .int .i64 0, .int .i64 6]) ∧ Below w.heap.size w w' := by
  rw [Z4_eq]
  have hsm := cell_set_map
  go_enter Tryz.func11, Tryz.ntmps11
  go_wp2_with (go_at_call 20; refine (c1 _ (hT.go bgo)).mono ?_; rintro r w1 ⟨rfl, hb1⟩; obtain ⟨hc1, hf1⟩ := bcell hb1; have hz1_0 : w.heap.size < w1.heap.size := lt_below hb1 ltg; have hl1_0 := Nat.le_of_lt hz1_0; have hz1_1 : w.heap.size + 1 < w1.heap.size := lt_below hb1 ltg; have hl1_1 := Nat.le_of_lt hz1_1; have hA1 := bnext (w0 := w) bgo hb1; have hs1 := hA1.size; clear hb1)
  exact bodyPost_ret (by simp only [results, Tryz.results11]; go_simp) rfl ⟨rfl, bgo⟩
variable (hb : b = 2)
include hb
set_option maxHeartbeats 4000000 in
theorem on_q (hc : (c == 3) = true) (Q : Nat) (F E : Int)
    (c2 : ∀ W, Tab W → Calls Tryz.prog 21 #[.int .i64 n, A4 B, .bool g] W fun r w' => r = .returned (.tuple #[A4 Q, .int .i64 F, .int .i64 E]) ∧ Below W.heap.size W w') :
    Calls Tryz.prog 11 #[.int .i64 n, A4 B, .bool up] w fun r w' => r = .returned (.tuple #[A4 Q, .int .i64 F, .int .i64 E]) ∧ Below w.heap.size w w' := by
  subst hb
  have hsm := cell_set_map
  go_enter Tryz.func11, Tryz.ntmps11
  go_wp2_with (first
    | (go_at_call 20; refine (c1 _ (hT.go bgo)).mono ?_; rintro r w1 ⟨rfl, hb1⟩; obtain ⟨hc1, hf1⟩ := bcell hb1; have hz1_0 : w.heap.size < w1.heap.size := lt_below hb1 ltg; have hl1_0 := Nat.le_of_lt hz1_0; have hz1_1 : w.heap.size + 1 < w1.heap.size := lt_below hb1 ltg; have hl1_1 := Nat.le_of_lt hz1_1; have hA1 := bnext (w0 := w) bgo hb1; have hs1 := hA1.size; clear hb1)
    | (go_at_call 21; refine (c2 _ (hT.go bgo)).mono ?_; rintro r w2 ⟨rfl, hb2⟩; obtain ⟨hc2, hf2⟩ := bcell hb2; have hz2_0 : w.heap.size < w2.heap.size := lt_below hb2 ltg; have hl2_0 := Nat.le_of_lt hz2_0; have hz2_1 : w.heap.size + 1 < w2.heap.size := lt_below hb2 ltg; have hl2_1 := Nat.le_of_lt hz2_1; have hz2_2 : w1.heap.size < w2.heap.size := lt_below hb2 ltg; have hl2_2 := Nat.le_of_lt hz2_2; have hA2 := bnext (w0 := w) bgo hb2; have hs2 := hA2.size; clear hb2))
  exact bodyPost_ret (by simp only [results, Tryz.results11]; go_simp) rfl ⟨rfl, bgo⟩
variable (hc : (c == 3) = false)
include hc
set_option maxHeartbeats 4000000 in
theorem on_0 (V : Nat)
    (c2 : ∀ W, Calls Tryz.prog 22 #[OV c s g x k 2] W fun r w' => r = .returned (.bool true) ∧ Below W.heap.size W w')
    (c3 : ∀ W, Tab W → Calls Tryz.prog 23 #[.int .i64 n, .bool (!up)] W fun r w' => r = .returned (A4 V) ∧ Below W.heap.size W w') :
    Calls Tryz.prog 11 #[.int .i64 n, A4 B, .bool up] w fun r w' => r = .returned (.tuple #[A4 V, .int .i64 0, .int .i64 0]) ∧ Below w.heap.size w w' := by
  subst hb
  have hsm := cell_set_map
  go_enter Tryz.func11, Tryz.ntmps11
  go_wp2_with (first
    | (go_at_call 20; refine (c1 _ (hT.go bgo)).mono ?_; rintro r w1 ⟨rfl, hb1⟩; obtain ⟨hc1, hf1⟩ := bcell hb1; have hz1_0 : w.heap.size < w1.heap.size := lt_below hb1 ltg; have hl1_0 := Nat.le_of_lt hz1_0; have hz1_1 : w.heap.size + 1 < w1.heap.size := lt_below hb1 ltg; have hl1_1 := Nat.le_of_lt hz1_1; have hA1 := bnext (w0 := w) bgo hb1; have hs1 := hA1.size; clear hb1)
    | (go_at_call 22; refine (c2 _).mono ?_; rintro r w2 ⟨rfl, hb2⟩; obtain ⟨hc2, hf2⟩ := bcell hb2; have hz2_0 : w.heap.size < w2.heap.size := lt_below hb2 ltg; have hl2_0 := Nat.le_of_lt hz2_0; have hz2_1 : w.heap.size + 1 < w2.heap.size := lt_below hb2 ltg; have hl2_1 := Nat.le_of_lt hz2_1; have hz2_2 : w1.heap.size < w2.heap.size := lt_below hb2 ltg; have hl2_2 := Nat.le_of_lt hz2_2; have hA2 := bnext (w0 := w) bgo hb2; have hs2 := hA2.size; clear hb2)
    | (go_at_call 23; refine (c3 _ (hT.go bgo)).mono ?_; rintro r w3 ⟨rfl, hb3⟩; obtain ⟨hc3, hf3⟩ := bcell hb3; have hz3_0 : w.heap.size < w3.heap.size := lt_below hb3 ltg; have hl3_0 := Nat.le_of_lt hz3_0; have hz3_1 : w.heap.size + 1 < w3.heap.size := lt_below hb3 ltg; have hl3_1 := Nat.le_of_lt hz3_1; have hz3_2 : w1.heap.size < w3.heap.size := lt_below hb3 ltg; have hl3_2 := Nat.le_of_lt hz3_2; have hA3 := bnext (w0 := w) bgo hb3; have hs3 := hA3.size; clear hb3))
  exact bodyPost_ret (by simp only [results, Tryz.results11]; go_simp) rfl ⟨rfl, bgo⟩
set_option maxHeartbeats 4000000 in
theorem on_s (V : Nat)
    (c2 : ∀ W, Calls Tryz.prog 22 #[OV c s g x k 2] W fun r w' => r = .returned (.bool false) ∧ Below W.heap.size W w')
    (c3 : ∀ W, Calls Tryz.prog 24 #[A4 B, OV c s g x k 2, .bool up] W fun r w' => r = .returned (A4 V) ∧ Below W.heap.size W w') :
    Calls Tryz.prog 11 #[.int .i64 n, A4 B, .bool up] w fun r w' => r = .returned (.tuple #[A4 V, .int .i64 0, .int .i64 0]) ∧ Below w.heap.size w w' := by
  subst hb
  have hsm := cell_set_map
  go_enter Tryz.func11, Tryz.ntmps11
  go_wp2_with (first
    | (go_at_call 20; refine (c1 _ (hT.go bgo)).mono ?_; rintro r w1 ⟨rfl, hb1⟩; obtain ⟨hc1, hf1⟩ := bcell hb1; have hz1_0 : w.heap.size < w1.heap.size := lt_below hb1 ltg; have hl1_0 := Nat.le_of_lt hz1_0; have hz1_1 : w.heap.size + 1 < w1.heap.size := lt_below hb1 ltg; have hl1_1 := Nat.le_of_lt hz1_1; have hA1 := bnext (w0 := w) bgo hb1; have hs1 := hA1.size; clear hb1)
    | (go_at_call 22; refine (c2 _).mono ?_; rintro r w2 ⟨rfl, hb2⟩; obtain ⟨hc2, hf2⟩ := bcell hb2; have hz2_0 : w.heap.size < w2.heap.size := lt_below hb2 ltg; have hl2_0 := Nat.le_of_lt hz2_0; have hz2_1 : w.heap.size + 1 < w2.heap.size := lt_below hb2 ltg; have hl2_1 := Nat.le_of_lt hz2_1; have hz2_2 : w1.heap.size < w2.heap.size := lt_below hb2 ltg; have hl2_2 := Nat.le_of_lt hz2_2; have hA2 := bnext (w0 := w) bgo hb2; have hs2 := hA2.size; clear hb2)
    | (go_at_call 24; refine (c3 _).mono ?_; rintro r w3 ⟨rfl, hb3⟩; obtain ⟨hc3, hf3⟩ := bcell hb3; have hz3_0 : w.heap.size < w3.heap.size := lt_below hb3 ltg; have hl3_0 := Nat.le_of_lt hz3_0; have hz3_1 : w.heap.size + 1 < w3.heap.size := lt_below hb3 ltg; have hl3_1 := Nat.le_of_lt hz3_1; have hz3_2 : w1.heap.size < w3.heap.size := lt_below hb3 ltg; have hl3_2 := Nat.le_of_lt hz3_2; have hA3 := bnext (w0 := w) bgo hb3; have hs3 := hA3.size; clear hb3))
  exact bodyPost_ret (by simp only [results, Tryz.results11]; go_simp) rfl ⟨rfl, bgo⟩
end
end Go.Proofs.YtgknbdehlmlipabGreatDoor

namespace Go.Proofs.YtgknbdehlmlipabGreatDoor
open Go.RowKit
attribute [local irreducible] W4 Nt Nz NT
theorem mE_fits (n : Int) (B : Nat) : mE n B = 0 ↔ okN n ∧ B < 2 ^ (widthN n).toNat := by
  unfold mE
  by_cases hb : binN n
  · rw [if_pos hb, fit_good hb B]
    unfold unE
    split <;> simp [*]
  · rw [if_neg hb]
    by_cases hd : decN n
    · obtain ⟨h1, _, _, hw, _⟩ := dec_fields hd
      have e : goodD n B ↔ okN n ∧ B < 2 ^ (widthN n).toNat := by
        rw [hw, Int.toNat_natCast]
        exact ⟨fun q => ⟨h1, q.2⟩, fun q => ⟨hd, q.2⟩⟩
      rw [← e]
      unfold vUE
      by_cases q : goodD n B
      · rw [if_pos q]; exact ⟨fun _ => q, fun _ => rfl⟩
      · rw [if_neg q]; exact ⟨fun h => absurd h (by decide), fun h => absurd h q⟩
    · have e : ¬ okN n := fun h => by unfold okN at h; unfold binN at hb; unfold decN at hd; omega
      have e2 : ¬ goodD n B := fun h => hd h.1
      unfold vUE
      rw [if_neg e2]
      exact ⟨fun h => absurd h (by decide), fun h => absurd h.1 e⟩
theorem pos_of {n : Int} {B : Nat} (hg : goodN n B) (h0 : ¬ nghtD (unD n B)) (h3 : (unD n B).c ≠ 3) : 1 ≤ B := by
  have hi := und_is hg
  have hpk := (back_un hg).2
  generalize unD n B = D at *
  obtain ⟨c, s, g, x, k⟩ := D
  rcases id hi with ⟨h1, h2, b1, b2, b3, b4⟩ | ⟨h1, h2, b1, b2⟩ | ⟨h1, _⟩
  · dsimp only at h1 h2
    subst h1 h2
    have hk : k ≠ 0 := fun q => h0 ⟨rfl, q⟩
    rw [← hpk, pk_fin hg.1 hi]
    omega
  · dsimp only at h1 h2 b1 b2
    subst h1 h2 b1 b2
    rw [← hpk, pk_inf hg.1]
    have : 1 ≤ tpN n := by rcases bin_cases hg.1 with rfl | rfl | rfl | rfl | rfl | rfl <;> decide
    omega
  · exact absurd h1 h3
theorem ord_nx (n : Int) (B : Nat) (up : Bool) (w : World) (hB : B < 2 ^ 256) (hT : Tab w) :
    Calls Tryz.prog 11 #[.int .i64 n, A4 B, .bool up] w fun r w' => r = .returned (.tuple #[A4 (nxV n B up), .int .i64 (nxF n B), .int .i64 (nxE n B)]) ∧ Below w.heap.size w w' := by
  obtain ⟨c, s, g, x, k, b, e1, cU⟩ := unp_v n B w hT hB
  unfold nxE
  by_cases hm : mE n B = 0
  · rw [if_pos ((mE_fits n B).1 hm)]
    rw [e1 hm, hm] at cU
    by_cases hb : binN n
    · have hg : goodN n B := (fit_good hb B).1 ((mE_fits n B).1 hm)
      have eD : mD n B = unD n B := if_pos hb
      have eX : mX n = 2 := if_pos hb
      rw [if_pos hb]
      rw [eD, eX] at cU
      have hk := unD_k n B
      by_cases h3 : (unD n B).c = 3
      · have eV : nxV n B up = quV n B := by unfold nxV; rw [if_pos hg, if_pos h3]
        have eF : nxF n B = if (unD n B).g then 1 else 0 := by
          unfold nxF
          cases (unD n B).g
          · rw [if_neg (fun q => by exact absurd q.2.2 (by decide))]; rfl
          · rw [if_pos ⟨hg, h3, rfl⟩]; rfl
        rw [eV, eF]
        have cq := fun W hW => oq_l n B (unD n B).g (quV n B) (quE n B) W hW (fun W' h => qu_any n B W' h hB)
        rw [(qu_self hg).2.1] at cq
        exact on_q n B up _ _ _ _ _ _ w hT cU rfl (by rw [h3]; rfl) _ _ _ cq
      · have eV : nxV n B up = nxP n B up := by unfold nxV; rw [if_pos hg, if_neg h3]
        have eF : nxF n B = 0 := if_neg (fun q => h3 q.2.1)
        have h3' : ((unD n B).c == 3) = false := by simpa using h3
        have cN := fun W => ont_v (unD n B).c (unD n B).x 2 (unD n B).s (unD n B).g (unD n B).k hk W
        rw [eV, eF]
        unfold nxP
        by_cases h0 : nghtD (unD n B)
        · rw [if_pos (show (unD n B).c = 1 ∧ (unD n B).k = 0 from h0)]
          have d1 : decide ((unD n B).c = 1 ∧ (unD n B).k = 0) = true := decide_eq_true h0
          rw [d1] at cN
          have c4 := fun W hW => ofv_any n W hW
          rw [← nx_zero hb (!up)]
          exact on_0 n B up _ _ _ _ _ _ w hT cU rfl h3' _ cN (fun W hW => osm_l n (!up) _ _ _ _ _ _ _ _ _ _ _ _ _ W hW c4 (fun W' h => pack_any n ⟨1, !up, false, leastN n, 1⟩ W' h (show (1 : Nat) < 2 ^ 256 by decide)))
        · rw [if_neg (show ¬ ((unD n B).c = 1 ∧ (unD n B).k = 0) from h0)]
          have d1 : decide ((unD n B).c = 1 ∧ (unD n B).k = 0) = false := decide_eq_false h0
          rw [d1] at cN
          have hpos := pos_of hg h0 h3
          have cO := fun W => of4 1 W (by decide)
          have cS := fun W => sub4 B 1 W hB (by decide)
          rw [A4_sub hpos] at cS
          have cA := fun W => add4 B 1 W hB (by decide)
          refine on_s n B up _ _ _ _ _ _ w hT cU rfl h3' _ cN (fun W => ?_)
          generalize (unD n B).c = c at *
          generalize (unD n B).s = s at *
          by_cases hs : s = up
          · rw [if_pos hs]
            subst hs
            cases s
            · exact st_ff B c _ _ _ _ W cO _ _ cS
            · exact st_tt B c _ _ _ _ W cO _ _ cS
          · rw [if_neg hs]
            by_cases hc : c = 2
            · rw [if_pos hc]
              have hc' : (c == 2) = true := by rw [hc]; rfl
              revert hs
              cases s <;> cases up <;> intro hs
              · exact absurd rfl hs
              · exact st_ft2 B c _ _ _ _ W cO hc'
              · exact st_tf2 B c _ _ _ _ W cO hc'
              · exact absurd rfl hs
            · rw [if_neg hc]
              have hc' : (c == 2) = false := by simpa using hc
              revert hs
              cases s <;> cases up <;> intro hs
              · exact absurd rfl hs
              · exact st_ft B c _ _ _ _ W cO _ _ hc' cA
              · exact st_tf B c _ _ _ _ W cO _ _ hc' cA
              · exact absurd rfl hs
    · have hg : ¬ goodN n B := fun h => hb h.1
      have eX : mX n = 10 := if_neg hb
      have eV : nxV n B up = 0 := if_neg hg
      have eF : nxF n B = 0 := if_neg (fun q => hg q.1)
      rw [if_neg hb, eV, eF]
      rw [eX] at cU
      exact on_d n B up _ _ _ _ _ _ w hT cU rfl
  · have hn : ¬ (okN n ∧ B < 2 ^ (widthN n).toNat) := fun h => hm ((mE_fits n B).2 h)
    have hg : ¬ goodN n B := fun h => hn ((fit_good h.1 B).2 h)
    have eV : nxV n B up = 0 := if_neg hg
    have eF : nxF n B = 0 := if_neg (fun q => hg q.1)
    rw [if_neg hn, eV, eF]
    rw [(mE_or n B).resolve_left hm] at cU
    exact on_e n B up _ _ _ _ _ _ w hT cU
theorem ordN : OrdN Tab := ⟨fun n B up W hB hT => ord_nx n B up W hB hT⟩
end Go.Proofs.YtgknbdehlmlipabGreatDoor

namespace Go.Proofs.YtgknbdehlmlipabGreatDoor
open Go.RowKit
theorem xr_top {y r : Nat} (h : y < 2 ^ r) : y ^^^ 2 ^ r = y + 2 ^ r := by
  have h2 : y + 2 ^ r = 2 ^ r * 1 + y := by omega
  rw [h2, Nat.two_pow_add_eq_or_of_lt h 1]
  refine Nat.eq_of_testBit_eq fun i => ?_
  simp only [Nat.testBit_xor, Nat.testBit_or, Nat.mul_one, Nat.testBit_two_pow]
  by_cases hi : r = i
  · subst hi
    rw [Nat.testBit_lt_two_pow h]
    simp
  · simp [hi]
theorem xr_sg {n : Int} {M : Nat} (h : M < 2 ^ (fN n + eN n)) (s : Bool) : (M + sgN n (!s)) ^^^ 2 ^ (fN n + eN n) = M + sgN n s := by
  cases s
  · show (M + 2 ^ (fN n + eN n)) ^^^ 2 ^ (fN n + eN n) = M + 0
    rw [← xr_top h, Nat.xor_assoc, Nat.xor_self, Nat.xor_zero]
    rfl
  · show (M + 0) ^^^ 2 ^ (fN n + eN n) = M + 2 ^ (fN n + eN n)
    exact xr_top h
theorem xr_W4 (A C i : Nat) : bits .xor .u64 (W4 A i) (W4 C i) = W4 (A ^^^ C) i := by
  unfold W4
  rw [u64_xor_nat _ _ (Nat.mod_lt _ (by decide)) (Nat.mod_lt _ (by decide)), show (18446744073709551616 : Nat) = 2 ^ 64 by decide, ← Nat.xor_mod_two_pow, ← Nat.xor_div_two_pow]
/-- a datum with the other sign -/
def trnD (d : Dat) : Dat := ⟨d.c, !d.s, d.g, d.x, d.k⟩
def trP (n : Int) (B : Nat) : Nat := pkV n (trnD (unD n B))
theorem trn_is {f : Nat} {l m : Int} {d : Dat} (h : isD f l m d) : isD f l m (trnD d) := h
theorem pk_half {n : Int} (hb : binN n) {d : Dat} (h : isD (fN n) (leastN n) (mostN n) d) :
    ∃ M, M < 2 ^ (fN n + eN n) ∧ pkV n d = M + sgN n d.s ∧ pkV n (trnD d) = M + sgN n (!d.s) := by
  obtain ⟨c, s, g, x, k⟩ := d
  have e : pkV n ⟨c, true, g, x, k⟩ = pkV n ⟨c, false, g, x, k⟩ + 2 ^ (fN n + eN n) := by
    unfold pkV
    rw [if_pos (show binN n ∧ isD (fN n) (leastN n) (mostN n) ⟨c, true, g, x, k⟩ from ⟨hb, h⟩), if_pos (show binN n ∧ isD (fN n) (leastN n) (mostN n) ⟨c, false, g, x, k⟩ from ⟨hb, h⟩)]
    unfold pk
    simp
  have hl := (pk_good hb (D := ⟨c, true, g, x, k⟩) h).1.2
  rw [e, Nat.pow_succ] at hl
  refine ⟨pkV n ⟨c, false, g, x, k⟩, by omega, ?_, ?_⟩
  · cases s
    · rfl
    · exact e
  · cases s
    · exact e
    · rfl
theorem trP_is {n : Int} {B : Nat} (hg : goodN n B) : goodN n (trP n B) ∧ unD n (trP n B) = trnD (unD n B) := pk_good hg.1 (trn_is (und_is hg))
theorem trP_xor {n : Int} {B : Nat} (hg : goodN n B) : B ^^^ 2 ^ (fN n + eN n) = trP n B := by
  obtain ⟨M, h1, h2, h3⟩ := pk_half hg.1 (und_is hg)
  rw [(back_un hg).2] at h2
  unfold trP
  rw [h3]
  generalize (unD n B).s = s at *
  rw [h2]
  have := xr_sg (n := n) h1 (!s)
  rwa [Bool.not_not] at this
theorem trn_G (d : Dat) : oG (trnD d) = - oG d := by
  unfold oG trnD
  cases d.s <;> rfl
theorem trn_R (d : Dat) : oR (trnD d) = - oR d := by
  unfold oR trnD
  dsimp only
  cases d.s
  · simp
  · simp
theorem trn_sm (n : Int) (d : Dat) : smP n (trnD d) = - smP n d := by
  unfold smP
  rw [trn_G, show mg n (trnD d) = mg n d from rfl, Int.neg_mul]
theorem trn_V {n : Int} (hb : binN n) {a b : Dat} (ha : isD (fN n) (leastN n) (mostN n) a) (hb' : isD (fN n) (leastN n) (mostN n) b) (h3 : a.c ≠ 3) (h3' : b.c ≠ 3) : oV (trnD a) 2 (trnD b) 2 = - oV a 2 b 2 := by
  rw [oV_sm hb ha hb' h3 h3', oV_sm hb (trn_is ha) (trn_is hb') h3 h3', trn_sm, trn_sm, sgn_minus]
theorem trn_T {n : Int} (hb : binN n) {a b : Dat} (ha : isD (fN n) (leastN n) (mostN n) a) (hb' : isD (fN n) (leastN n) (mostN n) b) : oT (trnD a) (trnD b) 2 = - oT a b 2 := by
  unfold oT
  rw [trn_R, trn_R, trn_G, show (trnD a).c = a.c from rfl, show (trnD a).k = a.k from rfl, show (trnD b).k = b.k from rfl, show (trnD a).x = a.x from rfl, show (trnD b).x = b.x from rfl]
  by_cases hR : oR a = oR b
  · rw [if_neg (show ¬ (-oR a ≠ -oR b) by omega), if_neg (show ¬ (oR a ≠ oR b) by omega)]
    by_cases h3 : a.c = 3
    · rw [if_pos h3, if_pos h3, Int.neg_mul]
    · rw [if_neg h3, if_neg h3]
      have h3' : b.c ≠ 3 := fun q => by
        unfold oR at hR
        rw [if_neg h3, if_pos q] at hR
        revert hR
        cases a.s <;> cases b.s <;> cases b.g <;> decide
      rw [trn_V hb ha hb' h3 h3']
      by_cases hz : oV a 2 b 2 = 0
      · rw [if_pos (show -oV a 2 b 2 = 0 by omega), if_pos hz, Int.neg_mul]
      · rw [if_neg (show ¬ -oV a 2 b 2 = 0 by omega), if_neg hz]
  · rw [if_pos (show -oR a ≠ -oR b by omega), if_pos (show oR a ≠ oR b from hR), sgn_minus]
theorem mE_good {n : Int} {A : Nat} (ha : goodN n A) : mE n A = 0 ∧ mD n A = unD n A ∧ mX n = 2 := ⟨by unfold mE; rw [if_pos ha.1]; exact if_pos ha, if_pos ha.1, if_pos ha.1⟩
theorem trn_M {n : Int} {A B : Nat} (ha : goodN n A) (hb : goodN n B) : oMc n (trP n A) n (trP n B) = - oMc n A n B ∧ oMo n (trP n A) n (trP n B) = oMo n A n B := by
  obtain ⟨a1, a2, a3⟩ := mE_good ha
  obtain ⟨b1, b2, b3⟩ := mE_good hb
  obtain ⟨p1, p2⟩ := trP_is ha
  obtain ⟨q1, q2⟩ := trP_is hb
  obtain ⟨c1, c2, _⟩ := mE_good p1
  obtain ⟨d1, d2, _⟩ := mE_good q1
  have zz : ¬ ((0 : Int) ≠ 0 ∨ (0 : Int) ≠ 0) := by omega
  unfold oMc oMo
  rw [a1, a2, a3, b1, b2, c1, c2, d1, d2, p2, q2, if_neg zz, if_neg zz, if_neg zz, if_neg zz, show (trnD (unD n A)).c = (unD n A).c from rfl, show (trnD (unD n B)).c = (unD n B).c from rfl]
  by_cases h : (unD n A).c = 3 ∨ (unD n B).c = 3
  · rw [if_pos h, if_pos h, if_pos h]
    exact ⟨rfl, rfl⟩
  · rw [if_neg h, if_neg h, if_neg h]
    exact ⟨trn_V ha.1 (und_is ha) (und_is hb) (fun q => h (Or.inl q)) (fun q => h (Or.inr q)), rfl⟩
theorem trn_Tc {n : Int} {A B : Nat} (ha : goodN n A) (hb : goodN n B) : oTc n (trP n A) (trP n B) = - oTc n A B := by
  obtain ⟨a1, a2, a3⟩ := mE_good ha
  obtain ⟨b1, b2, b3⟩ := mE_good hb
  obtain ⟨p1, p2⟩ := trP_is ha
  obtain ⟨q1, q2⟩ := trP_is hb
  obtain ⟨c1, c2, _⟩ := mE_good p1
  obtain ⟨d1, d2, _⟩ := mE_good q1
  have zz : ¬ ((0 : Int) ≠ 0 ∨ (0 : Int) ≠ 0) := by omega
  unfold oTc
  rw [a1, a2, a3, b1, b2, c1, c2, d1, d2, p2, q2, if_neg zz, if_neg zz]
  exact trn_T ha.1 (und_is ha) (und_is hb)
/-- the next one down has the other sign than the next one up -/
theorem trn_N {n : Int} {A : Nat} (ha : goodN n A) : nxV n (trP n A) false ^^^ 2 ^ (fN n + eN n) = nxV n A true ∧ nxF n (trP n A) = nxF n A ∧ nxE n A = 0 ∧ nxE n (trP n A) = 0 := by
  obtain ⟨p1, p2⟩ := trP_is ha
  have hb := ha.1
  have hD := und_is ha
  have ee : ∀ {B}, goodN n B → nxE n B = 0 := fun hg => by
    unfold nxE
    rw [if_pos ((fit_good hb _).2 hg), if_pos hb]
  refine ⟨?_, ?_, ee ha, ee p1⟩
  · unfold nxV
    rw [if_pos ha, if_pos p1, p2, show (trnD (unD n A)).c = (unD n A).c from rfl]
    obtain ⟨M, h1, h2, h3⟩ := pk_half hb hD
    have hA := (back_un ha).2
    have h2' := h2
    rw [hA] at h2
    by_cases hc : (unD n A).c = 3
    · rw [if_pos hc, if_pos hc]
      unfold quV
      rw [if_pos ha, if_pos p1, p2, show hush (trnD (unD n A)) = trnD (hush (unD n A)) from rfl]
      obtain ⟨M', k1, k2, k3⟩ := pk_half hb (hush_is hD)
      rw [k2, k3]
      exact xr_sg k1 _
    · rw [if_neg hc, if_neg hc]
      obtain ⟨m1, m2⟩ := mg_pk hb hD hc
      have z := mg_zero hb hD hc
      obtain ⟨t1, t2, t3⟩ := top_is hb
      have hp0 := Nat.two_pow_pos (fN n)
      have hM : M = mg n (unD n A) := by omega
      have hP : trP n A = M + sgN n (!(unD n A).s) := h3
      unfold nxP
      rw [p2, hP, show (trnD (unD n A)).c = (unD n A).c from rfl, show (trnD (unD n A)).k = (unD n A).k from rfl, show (trnD (unD n A)).s = !(unD n A).s from rfl]
      by_cases h0 : (unD n A).c = 1 ∧ (unD n A).k = 0
      · rw [if_pos h0, if_pos h0]
        have hf := (bin_fm hb).f240
        exact xr_sg (n := n) (M := 1) (by omega) false
      · rw [if_neg h0, if_neg h0]
        have m0 : mg n (unD n A) ≠ 0 := fun q => h0 (z.1 q)
        cases hs : (unD n A).s
        · rw [hs] at h2
          rw [if_neg (show ¬ ((!false) = false) by decide), if_neg (show ¬ (false = true) by decide)]
          by_cases h2c : (unD n A).c = 2
          · rw [if_pos h2c, if_pos h2c, h2]
            exact xr_sg h1 false
          · rw [if_neg h2c, if_neg h2c, h2]
            have h4 : 2 ^ 2 ≤ 2 ^ fN n := Nat.pow_le_pow_right (by decide) (fN_two hb)
            have hl : M + 1 < 2 ^ (fN n + eN n) := by omega
            have := xr_sg (n := n) hl false
            rw [show M + 1 + sgN n (!false) = M + sgN n (!false) + 1 by omega] at this
            rw [this]
            omega
        · rw [hs] at h2
          rw [if_pos (show (!true) = false from rfl), if_pos (show true = true from rfl), h2]
          have hl : M - 1 < 2 ^ (fN n + eN n) := by omega
          have := xr_sg (n := n) hl true
          rw [show M - 1 + sgN n (!true) = M + sgN n (!true) - 1 by omega] at this
          rw [this]
          omega
  · unfold nxF
    rw [p2]
    simp only [ha, p1, true_and]
    rfl
end Go.Proofs.YtgknbdehlmlipabGreatDoor

namespace Go.Proofs.YtgknbdehlmlipabGreatDoor
open Go.RowKit
attribute [local irreducible] W4 NV NT Nt
/-- a pattern whose first j words are turned -/
def mixW (A S j : Nat) (i : Nat) : Int := if i < j then W4 (A ^^^ S) i else W4 A i
theorem mixW_0 (A S i : Nat) : mixW A S 0 i = W4 A i := if_neg (by omega)
theorem mixW_4 (A S : Nat) {i : Nat} (h : i < 4) : mixW A S 4 i = W4 (A ^^^ S) i := if_pos h
theorem mixW_step (A S j i : Nat) : (if i = j then bits .xor .u64 (mixW A S j j) (W4 S j) else mixW A S j i) = mixW A S (j + 1) i := by
  unfold mixW
  by_cases h : i = j
  · subst h
    rw [if_pos rfl, if_neg (by omega), if_pos (by omega), xr_W4]
  · rw [if_neg h]
    by_cases h2 : i < j
    · rw [if_pos h2, if_pos (by omega)]
    · rw [if_neg h2, if_neg (by omega)]
theorem wbk_new {w : World} {g : Nat} {f : Nat → Int} (h : g < w.heap.size) (c0 : w.cell? ⟨g, 0, none⟩ = some (.int .u64 (f 0))) (c1 : w.cell? ⟨g, 1, none⟩ = some (.int .u64 (f 1))) (c2 : w.cell? ⟨g, 2, none⟩ = some (.int .u64 (f 2))) (c3 : w.cell? ⟨g, 3, none⟩ = some (.int .u64 (f 3)))
    (z0 : w.frozen? ⟨g, 0, none⟩ = false) (z1 : w.frozen? ⟨g, 1, none⟩ = false) (z2 : w.frozen? ⟨g, 2, none⟩ = false) (z3 : w.frozen? ⟨g, 3, none⟩ = false) : WBk g f w := by
  refine ⟨h, fun i hi => ?_, fun i hi => ?_⟩
  · rcases four_cases hi with rfl | rfl | rfl | rfl <;> assumption
  · rcases four_cases hi with rfl | rfl | rfl | rfl <;> assumption
section
variable (TT : World → Prop) (hTT : ∀ w w', TT w → Below w.heap.size w w' → TT w') (w : World) (hT : TT w)
  (c8 : ∀ W, TT W → Calls Tryz.prog 4 #[] W fun r w' => r = .returned (.bool true) ∧ Below W.heap.size W w')
variable (n : Int) (A B : Nat)
include hTT hT c8
set_option maxHeartbeats 4000000 in
theorem tn20_n (b1 b2 : Bool) (hn : (b1 && b2) = false)
    (c9 : ∀ W, Calls Tryz.prog 5 #[.int .i64 n, A4 A] W fun r w' => r = .returned (.bool b1) ∧ Below W.heap.size W w')
    (c9b : ∀ W, Calls Tryz.prog 5 #[.int .i64 n, A4 B] W fun r w' => r = .returned (.bool b2) ∧ Below W.heap.size W w') :
    Calls Tryz.prog 3 #[.int .i64 n, A4 A, A4 B] w fun r w' => r = .returned (.bool true) ∧ Below w.heap.size w w' := by
  have hsm := cell_set_map
  unfold A4 at *
  cases b1 <;> cases b2 <;> simp only [Bool.and_self, Bool.and_true, Bool.and_false, Bool.true_and, Bool.false_and, Bool.true_eq_false] at hn
  all_goals (
    clear hn
    go_enter Tryz.func3, Tryz.ntmps3
    go_wp2_with (first
      | (have := hA2; go_at_call 4; refine (c8 _ (hTT _ _ hT bgo)).mono ?_; rintro r w4 ⟨rfl, hb4⟩; obtain ⟨hc4, hf4⟩ := bcell hb4; have hz4_0 : w.heap.size < w4.heap.size := lt_below hb4 ltg; have hl4_0 := Nat.le_of_lt hz4_0; have hz4_1 : w.heap.size + 1 < w4.heap.size := lt_below hb4 ltg; have hl4_1 := Nat.le_of_lt hz4_1; have hA4 := bnext (w0 := w) bgo hb4; have hs4 := hA4.size; clear hb4)
      | (go_at_call 4; refine (c8 _ (hTT _ _ hT bgo)).mono ?_; rintro r w1 ⟨rfl, hb1⟩; obtain ⟨hc1, hf1⟩ := bcell hb1; have hz1_0 : w.heap.size < w1.heap.size := lt_below hb1 ltg; have hl1_0 := Nat.le_of_lt hz1_0; have hz1_1 : w.heap.size + 1 < w1.heap.size := lt_below hb1 ltg; have hl1_1 := Nat.le_of_lt hz1_1; have hA1 := bnext (w0 := w) bgo hb1; have hs1 := hA1.size; clear hb1)
      | (have := hA2; go_at_call 5; refine (c9b _).mono ?_; rintro r w3 ⟨rfl, hb3⟩; obtain ⟨hc3, hf3⟩ := bcell hb3; have hz3_0 : w.heap.size < w3.heap.size := lt_below hb3 ltg; have hl3_0 := Nat.le_of_lt hz3_0; have hz3_1 : w.heap.size + 1 < w3.heap.size := lt_below hb3 ltg; have hl3_1 := Nat.le_of_lt hz3_1; have hA3 := bnext (w0 := w) bgo hb3; have hs3 := hA3.size; clear hb3)
      | (go_at_call 5; refine (c9 _).mono ?_; rintro r w2 ⟨rfl, hb2⟩; obtain ⟨hc2, hf2⟩ := bcell hb2; have hz2_0 : w.heap.size < w2.heap.size := lt_below hb2 ltg; have hl2_0 := Nat.le_of_lt hz2_0; have hz2_1 : w.heap.size + 1 < w2.heap.size := lt_below hb2 ltg; have hl2_1 := Nat.le_of_lt hz2_1; have hA2 := bnext (w0 := w) bgo hb2; have hs2 := hA2.size; clear hb2))
    go_ret
    exact ⟨by first | rfl | simp, bgo⟩)
set_option maxHeartbeats 16000000 in
theorem tn20_y (S P Q U D : Nat) (C Z X Y F E1 E2 E3 E4 : Int) (o : Bool) (hP : A ^^^ S = P) (hQ : B ^^^ S = Q) (hU : D ^^^ S = U) (hZ : Z = -C) (hY : Y = -X) (hC : -1 ≤ C ∧ C ≤ 1) (hX : -1 ≤ X ∧ X ≤ 1)
    (nm : ByteArray) (bs wd pr ex le mo pa : Int) (dn : Bool) (hwd : 1 ≤ wd ∧ wd ≤ 1000)
    (c9 : ∀ W, Calls Tryz.prog 5 #[.int .i64 n, A4 A] W fun r w' => r = .returned (.bool true) ∧ Below W.heap.size W w')
    (c9b : ∀ W, Calls Tryz.prog 5 #[.int .i64 n, A4 B] W fun r w' => r = .returned (.bool true) ∧ Below W.heap.size W w')
    (c19 : ∀ W, Calls Tryz.prog 6 #[.int .i64 n] W fun r w' => r = .returned (.tuple #[.agg #[.int .i64 n, .string nm, .int .i64 bs, .int .i64 wd, .int .i64 pr, .int .i64 ex, .int .i64 le, .int .i64 mo, .int .i64 pa, .bool dn], .int .i64 0]) ∧ Below W.heap.size W w')
    (c24 : ∀ W v, NT 900 1 v W → Calls Tryz.prog 8 #[v, .int .i64 (wd - 1)] W fun r w' => ∃ u, r = .returned u ∧ NV 1000 S u w' ∧ Below W.heap.size W w')
    (c25 : ∀ W v, NV 1000 S v W → Calls Tryz.prog 7 #[v] W fun r w' => r = .returned (A4 S) ∧ Below W.heap.size W w')
    (c34 : ∀ W, TT W → Calls Tryz.prog 9 #[.int .i64 n, A4 A, A4 B] W fun r w' => r = .returned (.tuple #[.int .i64 C, .bool o, .int .i64 E1]) ∧ Below W.heap.size W w')
    (c34b : ∀ W, TT W → Calls Tryz.prog 9 #[.int .i64 n, A4 P, A4 Q] W fun r w' => r = .returned (.tuple #[.int .i64 Z, .bool o, .int .i64 E2]) ∧ Below W.heap.size W w')
    (c35 : ∀ W, TT W → Calls Tryz.prog 10 #[.int .i64 n, A4 A, A4 B] W fun r w' => r = .returned (.tuple #[.int .i64 X, .int .i64 E3]) ∧ Below W.heap.size W w')
    (c35b : ∀ W, TT W → Calls Tryz.prog 10 #[.int .i64 n, A4 P, A4 Q] W fun r w' => r = .returned (.tuple #[.int .i64 Y, .int .i64 E4]) ∧ Below W.heap.size W w')
    (c22 : ∀ W, TT W → Calls Tryz.prog 11 #[.int .i64 n, A4 A, .bool true] W fun r w' => r = .returned (.tuple #[A4 U, .int .i64 F, .int .i64 0]) ∧ Below W.heap.size W w')
    (c22b : ∀ W, TT W → Calls Tryz.prog 11 #[.int .i64 n, A4 P, .bool false] W fun r w' => r = .returned (.tuple #[A4 D, .int .i64 F, .int .i64 0]) ∧ Below W.heap.size W w') :
    Calls Tryz.prog 3 #[.int .i64 n, A4 A, A4 B] w fun r w' => r = .returned (.bool true) ∧ Below w.heap.size w w' := by
  subst hZ hY
  have hsm := cell_set_map
  have e1 := eq24 (W4 U 0) (W4 U 1) (W4 U 2) (W4 U 3) (W4 U 0) (W4 U 1) (W4 U 2) (W4 U 3)
  rw [decide_eq_true ⟨rfl, rfl, rfl, rfl⟩] at e1
  have hmP : ∀ i, i < 4 → mixW A S 4 i = W4 P i := fun i hi => by rw [mixW_4 A S hi, hP]
  have hmQ : ∀ i, i < 4 → mixW B S 4 i = W4 Q i := fun i hi => by rw [mixW_4 B S hi, hQ]
  have hmU : ∀ i, i < 4 → mixW D S 4 i = W4 U i := fun i hi => by rw [mixW_4 D S hi, hU]
  clear hP hQ hU
  unfold A4 at *
  go_enter Tryz.func3, Tryz.ntmps3
  go_upto_region 5 with (first
    | (go_at_call 4; refine (c8 _ (hTT _ _ hT bgo)).mono ?_; rintro r w1 ⟨rfl, hb1⟩; obtain ⟨hc1, hf1⟩ := bcell hb1; have hz1_0 : w.heap.size < w1.heap.size := lt_below hb1 ltg; have hl1_0 := Nat.le_of_lt hz1_0; have hz1_1 : w.heap.size + 1 < w1.heap.size := lt_below hb1 ltg; have hl1_1 := Nat.le_of_lt hz1_1; have hA1 := bnext (w0 := w) bgo hb1; have hs1 := hA1.size; clear hb1)
    | (have := hA2; go_at_call 5; refine (c9b _).mono ?_; rintro r w3 ⟨rfl, hb3⟩; obtain ⟨hc3, hf3⟩ := bcell hb3; have hz3_0 : w.heap.size < w3.heap.size := lt_below hb3 ltg; have hl3_0 := Nat.le_of_lt hz3_0; have hz3_1 : w.heap.size + 1 < w3.heap.size := lt_below hb3 ltg; have hl3_1 := Nat.le_of_lt hz3_1; have hA3 := bnext (w0 := w) bgo hb3; have hs3 := hA3.size; clear hb3)
    | (go_at_call 5; refine (c9 _).mono ?_; rintro r w2 ⟨rfl, hb2⟩; obtain ⟨hc2, hf2⟩ := bcell hb2; have hz2_0 : w.heap.size < w2.heap.size := lt_below hb2 ltg; have hl2_0 := Nat.le_of_lt hz2_0; have hz2_1 : w.heap.size + 1 < w2.heap.size := lt_below hb2 ltg; have hl2_1 := Nat.le_of_lt hz2_1; have hA2 := bnext (w0 := w) bgo hb2; have hs2 := hA2.size; clear hb2)
    | (go_at_call 6; refine (c19 _).mono ?_; rintro r w4 ⟨rfl, hb4⟩; obtain ⟨hc4, hf4⟩ := bcell hb4; have hz4_0 : w.heap.size < w4.heap.size := lt_below hb4 ltg; have hl4_0 := Nat.le_of_lt hz4_0; have hz4_1 : w.heap.size + 1 < w4.heap.size := lt_below hb4 ltg; have hl4_1 := Nat.le_of_lt hz4_1; have hA4 := bnext (w0 := w) bgo hb4; have hs4 := hA4.size; clear hb4)
    | (go_at_call 8; refine (c24 _ _ (nt_oneB (by simp))).mono ?_; rintro r w5 ⟨v5, rfl, hv5, hb5⟩; have ez0 : w.heap.size < w4.heap.size + 1 + 1 := (by omega); have ez1 : w.heap.size + 1 < w4.heap.size + 1 + 1 := (by omega); have ez4 : w4.heap.size < w4.heap.size + 1 + 1 := (by omega); obtain ⟨hc5, hf5⟩ := bcell hb5; have hz5_0 : w.heap.size < w5.heap.size := lt_below hb5 ltg; have hl5_0 := Nat.le_of_lt hz5_0; have hz5_1 : w.heap.size + 1 < w5.heap.size := lt_below hb5 ltg; have hl5_1 := Nat.le_of_lt hz5_1; have hz5_2 : w4.heap.size < w5.heap.size := lt_below hb5 ltg; have hl5_2 := Nat.le_of_lt hz5_2; have hA5 := bnext (w0 := w) bgo hb5; have hs5 := hA5.size; clear hb5)
    | (go_at_call 7; refine (c25 _ _ hv5).mono ?_; rintro r w6 ⟨rfl, hb6⟩; obtain ⟨hc6, hf6⟩ := bcell hb6; have hz6_0 : w.heap.size < w6.heap.size := lt_below hb6 ltg; have hl6_0 := Nat.le_of_lt hz6_0; have hz6_1 : w.heap.size + 1 < w6.heap.size := lt_below hb6 ltg; have hl6_1 := Nat.le_of_lt hz6_1; have hz6_2 : w4.heap.size < w6.heap.size := lt_below hb6 ltg; have hl6_2 := Nat.le_of_lt hz6_2; have hA6 := bnext (w0 := w) bgo hb6; have hs6 := hA6.size; clear hb6)
    | fail)
  have hwa : w.heap.size < w6.heap.size := by omega
  have hwb : w.heap.size + 1 < w6.heap.size := by omega
  refine regT5o (ga := w.heap.size) (gb := w.heap.size + 1) (X4 := A) (X3 := B) rfl rfl rfl (wbk_new (by first | (simp; done) | (simp; omega)) (by go_simp) (by go_simp) (by go_simp) (by go_simp) (by go_simp) (by go_simp) (by go_simp) (by go_simp)) (wbk_new (by first | (simp; done) | (simp; omega)) (by go_simp) (by go_simp) (by go_simp) (by go_simp) (by go_simp) (by go_simp) (by go_simp) (by go_simp)) ?_
  intro a5 w7 gp gq e10 e11 hpq hgp hgq hBp hBq hsz hdf hFr hb7
  have wa := WBk.next (w := _) (g := w.heap.size) (f := W4 A) (wbk_new (by first | (simp; done) | (simp; omega)) (by go_simp) (by go_simp) (by go_simp) (by go_simp) (by go_simp) (by go_simp) (by go_simp) (by go_simp)) hb7
  have wb := WBk.next (w := _) (g := w.heap.size + 1) (f := W4 B) (wbk_new (by first | (simp; done) | (simp; omega)) (by go_simp) (by go_simp) (by go_simp) (by go_simp) (by go_simp) (by go_simp) (by go_simp) (by go_simp)) hb7
  have wsg := WBk.next (w := _) (g := w6.heap.size) (f := W4 S) (wbk_new (by first | (simp; done) | (simp; omega)) (by go_simp) (by go_simp) (by go_simp) (by go_simp) (by go_simp) (by go_simp) (by go_simp) (by go_simp)) hb7
  have hA7 := bnext (w0 := w) bgo hb7
  have hgp' : w6.heap.size + 1 ≤ gp := by simpa using hgp
  have hgq' : w6.heap.size + 1 ≤ gq := by simpa using hgq
  have wp0 : WBk gp (mixW A S 0) w7 := hBp.wbk.same fun i _ => (mixW_0 A S i).symm
  have wq0 : WBk gq (mixW B S 0) w7 := hBq.wbk.same fun i _ => (mixW_0 B S i).symm
  have hs7 := hA7.size
  have ha := act_of slotsO5 5 rfl hsz hdf hFr
  rw [ha]
  simp only [slotsO5, List.foldl_cons, List.foldl_nil, Act.put, List.setIfInBounds_toArray, List.set_cons_succ, List.set_cons_zero, e10, e11]
  generalize slot a5 56 = s56
  generalize slot a5 57 = s57
  generalize slot a5 166 = s166
  clear ha e10 e11 hsz hdf hFr hb7 hgp hgq hBp hBq
  go_wp2
  go_loopw [58] (fun t58 wr => ∃ j : Nat, j ≤ 4 ∧ t58 = .int .i64 (j : Int) ∧ Below w.heap.size w wr ∧ WBk w.heap.size (W4 A) wr ∧ WBk (w.heap.size + 1) (W4 B) wr ∧ WBk w6.heap.size (W4 S) wr ∧ WBk gp (mixW A S j) wr ∧ WBk gq (mixW B S j) wr) (fun t58 _ => 4 - (intOf t58).toNat)
  case atStart => exact ⟨0, by decide, rfl, hA7, wa, wb, wsg, wp0, wq0⟩
  case round =>
    clear wa wb wsg wp0 wq0
    obtain ⟨j, hj, rfl, hbR, ra, rb, rs, rp, rq⟩ := hrel
    have hsR := hbR.size
    by_cases h4 : j = 4
    · subst h4
      have l0 := ra.lt
      have l1 := rb.lt
      have l2 := rs.lt
      have l3 := rp.lt
      have l4 := rq.lt
      have ka0 : wr.cell? ⟨w.heap.size, 0, none⟩ = some (.int .u64 (W4 A 0)) := ra.c 0 (by decide)
      have ka1 : wr.cell? ⟨w.heap.size, 1, none⟩ = some (.int .u64 (W4 A 1)) := ra.c 1 (by decide)
      have ka2 : wr.cell? ⟨w.heap.size, 2, none⟩ = some (.int .u64 (W4 A 2)) := ra.c 2 (by decide)
      have ka3 : wr.cell? ⟨w.heap.size, 3, none⟩ = some (.int .u64 (W4 A 3)) := ra.c 3 (by decide)
      have kb0 : wr.cell? ⟨w.heap.size + 1, 0, none⟩ = some (.int .u64 (W4 B 0)) := rb.c 0 (by decide)
      have kb1 : wr.cell? ⟨w.heap.size + 1, 1, none⟩ = some (.int .u64 (W4 B 1)) := rb.c 1 (by decide)
      have kb2 : wr.cell? ⟨w.heap.size + 1, 2, none⟩ = some (.int .u64 (W4 B 2)) := rb.c 2 (by decide)
      have kb3 : wr.cell? ⟨w.heap.size + 1, 3, none⟩ = some (.int .u64 (W4 B 3)) := rb.c 3 (by decide)
      have ks0 : wr.cell? ⟨w6.heap.size, 0, none⟩ = some (.int .u64 (W4 S 0)) := rs.c 0 (by decide)
      have ks1 : wr.cell? ⟨w6.heap.size, 1, none⟩ = some (.int .u64 (W4 S 1)) := rs.c 1 (by decide)
      have ks2 : wr.cell? ⟨w6.heap.size, 2, none⟩ = some (.int .u64 (W4 S 2)) := rs.c 2 (by decide)
      have ks3 : wr.cell? ⟨w6.heap.size, 3, none⟩ = some (.int .u64 (W4 S 3)) := rs.c 3 (by decide)
      have kz0 : wr.frozen? ⟨w6.heap.size, 0, none⟩ = false := rs.z 0 (by decide)
      have kz1 : wr.frozen? ⟨w6.heap.size, 1, none⟩ = false := rs.z 1 (by decide)
      have kz2 : wr.frozen? ⟨w6.heap.size, 2, none⟩ = false := rs.z 2 (by decide)
      have kz3 : wr.frozen? ⟨w6.heap.size, 3, none⟩ = false := rs.z 3 (by decide)
      have kp0 : wr.cell? ⟨gp, 0, none⟩ = some (.int .u64 (W4 P 0)) := (rp.c 0 (by decide)).trans (by rw [hmP 0 (by decide)])
      have kp1 : wr.cell? ⟨gp, 1, none⟩ = some (.int .u64 (W4 P 1)) := (rp.c 1 (by decide)).trans (by rw [hmP 1 (by decide)])
      have kp2 : wr.cell? ⟨gp, 2, none⟩ = some (.int .u64 (W4 P 2)) := (rp.c 2 (by decide)).trans (by rw [hmP 2 (by decide)])
      have kp3 : wr.cell? ⟨gp, 3, none⟩ = some (.int .u64 (W4 P 3)) := (rp.c 3 (by decide)).trans (by rw [hmP 3 (by decide)])
      have kq0 : wr.cell? ⟨gq, 0, none⟩ = some (.int .u64 (W4 Q 0)) := (rq.c 0 (by decide)).trans (by rw [hmQ 0 (by decide)])
      have kq1 : wr.cell? ⟨gq, 1, none⟩ = some (.int .u64 (W4 Q 1)) := (rq.c 1 (by decide)).trans (by rw [hmQ 1 (by decide)])
      have kq2 : wr.cell? ⟨gq, 2, none⟩ = some (.int .u64 (W4 Q 2)) := (rq.c 2 (by decide)).trans (by rw [hmQ 2 (by decide)])
      have kq3 : wr.cell? ⟨gq, 3, none⟩ = some (.int .u64 (W4 Q 3)) := (rq.c 3 (by decide)).trans (by rw [hmQ 3 (by decide)])
      clear ra rb rs rp rq
      go_wp2_with (first
        | (have := hA8; go_at_call 9; refine (c34b _ (hTT _ _ hT bgo)).mono ?_; rintro r w9 ⟨rfl, hb9⟩; obtain ⟨hc9, hf9⟩ := bcell hb9; have hz9_0 : w.heap.size < w9.heap.size := lt_below hb9 ltg; have hl9_0 := Nat.le_of_lt hz9_0; have hz9_1 : w.heap.size + 1 < w9.heap.size := lt_below hb9 ltg; have hl9_1 := Nat.le_of_lt hz9_1; have hz9_2 : w6.heap.size < w9.heap.size := lt_below hb9 ltg; have hl9_2 := Nat.le_of_lt hz9_2; have hz9_3 : gp < w9.heap.size := lt_below hb9 ltg; have hl9_3 := Nat.le_of_lt hz9_3; have hz9_4 : gq < w9.heap.size := lt_below hb9 ltg; have hl9_4 := Nat.le_of_lt hz9_4; have hA9 := bnext (w0 := w) bgo hb9; have hs9 := hA9.size; clear hb9)
        | (go_at_call 9; refine (c34 _ (hTT _ _ hT bgo)).mono ?_; rintro r w8 ⟨rfl, hb8⟩; obtain ⟨hc8, hf8⟩ := bcell hb8; have hz8_0 : w.heap.size < w8.heap.size := lt_below hb8 ltg; have hl8_0 := Nat.le_of_lt hz8_0; have hz8_1 : w.heap.size + 1 < w8.heap.size := lt_below hb8 ltg; have hl8_1 := Nat.le_of_lt hz8_1; have hz8_2 : w6.heap.size < w8.heap.size := lt_below hb8 ltg; have hl8_2 := Nat.le_of_lt hz8_2; have hz8_3 : gp < w8.heap.size := lt_below hb8 ltg; have hl8_3 := Nat.le_of_lt hz8_3; have hz8_4 : gq < w8.heap.size := lt_below hb8 ltg; have hl8_4 := Nat.le_of_lt hz8_4; have hA8 := bnext (w0 := w) bgo hb8; have hs8 := hA8.size; clear hb8)
        | (have := hA10; go_at_call 10; refine (c35b _ (hTT _ _ hT bgo)).mono ?_; rintro r w11 ⟨rfl, hb11⟩; obtain ⟨hc11, hf11⟩ := bcell hb11; have hz11_0 : w.heap.size < w11.heap.size := lt_below hb11 ltg; have hl11_0 := Nat.le_of_lt hz11_0; have hz11_1 : w.heap.size + 1 < w11.heap.size := lt_below hb11 ltg; have hl11_1 := Nat.le_of_lt hz11_1; have hz11_2 : w6.heap.size < w11.heap.size := lt_below hb11 ltg; have hl11_2 := Nat.le_of_lt hz11_2; have hz11_3 : gp < w11.heap.size := lt_below hb11 ltg; have hl11_3 := Nat.le_of_lt hz11_3; have hz11_4 : gq < w11.heap.size := lt_below hb11 ltg; have hl11_4 := Nat.le_of_lt hz11_4; have hA11 := bnext (w0 := w) bgo hb11; have hs11 := hA11.size; clear hb11)
        | (go_at_call 10; refine (c35 _ (hTT _ _ hT bgo)).mono ?_; rintro r w10 ⟨rfl, hb10⟩; obtain ⟨hc10, hf10⟩ := bcell hb10; have hz10_0 : w.heap.size < w10.heap.size := lt_below hb10 ltg; have hl10_0 := Nat.le_of_lt hz10_0; have hz10_1 : w.heap.size + 1 < w10.heap.size := lt_below hb10 ltg; have hl10_1 := Nat.le_of_lt hz10_1; have hz10_2 : w6.heap.size < w10.heap.size := lt_below hb10 ltg; have hl10_2 := Nat.le_of_lt hz10_2; have hz10_3 : gp < w10.heap.size := lt_below hb10 ltg; have hl10_3 := Nat.le_of_lt hz10_3; have hz10_4 : gq < w10.heap.size := lt_below hb10 ltg; have hl10_4 := Nat.le_of_lt hz10_4; have hA10 := bnext (w0 := w) bgo hb10; have hs10 := hA10.size; clear hb10)
        | (have := hA12; go_at_call 11; refine (c22b _ (hTT _ _ hT bgo)).mono ?_; rintro r w13 ⟨rfl, hb13⟩; obtain ⟨hc13, hf13⟩ := bcell hb13; have hz13_0 : w.heap.size < w13.heap.size := lt_below hb13 ltg; have hl13_0 := Nat.le_of_lt hz13_0; have hz13_1 : w.heap.size + 1 < w13.heap.size := lt_below hb13 ltg; have hl13_1 := Nat.le_of_lt hz13_1; have hz13_2 : w6.heap.size < w13.heap.size := lt_below hb13 ltg; have hl13_2 := Nat.le_of_lt hz13_2; have hz13_3 : gp < w13.heap.size := lt_below hb13 ltg; have hl13_3 := Nat.le_of_lt hz13_3; have hz13_4 : gq < w13.heap.size := lt_below hb13 ltg; have hl13_4 := Nat.le_of_lt hz13_4; have hz13_5 : w12.heap.size < w13.heap.size := lt_below hb13 ltg; have hl13_5 := Nat.le_of_lt hz13_5; have hA13 := bnext (w0 := w) bgo hb13; have hs13 := hA13.size; clear hb13)
        | (go_at_call 11; refine (c22 _ (hTT _ _ hT bgo)).mono ?_; rintro r w12 ⟨rfl, hb12⟩; obtain ⟨hc12, hf12⟩ := bcell hb12; have hz12_0 : w.heap.size < w12.heap.size := lt_below hb12 ltg; have hl12_0 := Nat.le_of_lt hz12_0; have hz12_1 : w.heap.size + 1 < w12.heap.size := lt_below hb12 ltg; have hl12_1 := Nat.le_of_lt hz12_1; have hz12_2 : w6.heap.size < w12.heap.size := lt_below hb12 ltg; have hl12_2 := Nat.le_of_lt hz12_2; have hz12_3 : gp < w12.heap.size := lt_below hb12 ltg; have hl12_3 := Nat.le_of_lt hz12_3; have hz12_4 : gq < w12.heap.size := lt_below hb12 ltg; have hl12_4 := Nat.le_of_lt hz12_4; have hA12 := bnext (w0 := w) bgo hb12; have hs12 := hA12.size; clear hb12))
      go_loopw [124] (fun t124 wr2 => ∃ j : Nat, j ≤ 4 ∧ t124 = .int .i64 (j : Int) ∧ Below w.heap.size w wr2 ∧ WBk w12.heap.size (W4 U) wr2 ∧ WBk w6.heap.size (W4 S) wr2 ∧ WBk w13.heap.size (mixW D S j) wr2) (fun t124 _ => 4 - (intOf t124).toNat)
      case atStart =>
        refine ⟨0, by decide, rfl, bgo, wbk_new (by first | (simp; done) | (simp; omega)) (by go_simp) (by go_simp) (by go_simp) (by go_simp) (by go_simp) (by go_simp) (by go_simp) (by go_simp), wbk_new (by first | (simp; done) | (simp; omega)) (by go_simp) (by go_simp) (by go_simp) (by go_simp) (by go_simp) (by go_simp) (by go_simp) (by go_simp), WBk.same (f := W4 D) (wbk_new (by first | (simp; done) | (simp; omega)) (by go_simp) (by go_simp) (by go_simp) (by go_simp) (by go_simp) (by go_simp) (by go_simp) (by go_simp)) fun i _ => (mixW_0 D S i).symm⟩
      case round =>
        obtain ⟨j, hj, rfl, hbR2, ru, rs2, rd⟩ := hrel
        have hsR2 := hbR2.size
        by_cases h4 : j = 4
        · subst h4
          have ku0 := ru.c 0 (by decide)
          have ku1 := ru.c 1 (by decide)
          have ku2 := ru.c 2 (by decide)
          have ku3 := ru.c 3 (by decide)
          have kd0 := (rd.c 0 (by decide)).trans (congrArg (fun z => some (Value.int IntKind.u64 z)) (hmU 0 (by decide)))
          have kd1 := (rd.c 1 (by decide)).trans (congrArg (fun z => some (Value.int IntKind.u64 z)) (hmU 1 (by decide)))
          have kd2 := (rd.c 2 (by decide)).trans (congrArg (fun z => some (Value.int IntKind.u64 z)) (hmU 2 (by decide)))
          have kd3 := (rd.c 3 (by decide)).trans (congrArg (fun z => some (Value.int IntKind.u64 z)) (hmU 3 (by decide)))
          clear ru rs2 rd
          go_wp2
          go_ret
          exact ⟨by first | rfl | simp, bgo⟩
        · have hj4 : j < 4 := by omega
          go_upto_region 20 with fail
          refine regT20 (b := w.heap.size) (w0 := w) (gu := w12.heap.size) (gs := w6.heap.size) (gp := w13.heap.size) rfl hj4 rfl rfl rfl hbR2 (by omega) ru rs2 rd ⟨by omega, by omega⟩ ?_
          intro a20 w20 nb nu ns nd hsz hdf hFr
          have ha := act_of slotsT20 9 rfl hsz hdf hFr
          rw [ha]
          simp only [slotsT20, List.foldl_cons, List.foldl_nil, Act.put, List.setIfInBounds_toArray, List.set_cons_succ, List.set_cons_zero]
          generalize slot a20 127 = s127
          generalize slot a20 128 = s128
          generalize slot a20 129 = s129
          generalize slot a20 130 = s130
          generalize slot a20 131 = s131
          generalize slot a20 132 = s132
          generalize slot a20 133 = s133
          generalize slot a20 134 = s134
          generalize slot a20 135 = s135
          clear ha hsz hdf hFr
          go_wp2
          go_roundw
          case rel => exact ⟨j + 1, by omega, by go_num, nb, nu, ns, nd.same fun i _ => mixW_step D S j i⟩
          case measure => simp [intOf]; omega
    · have hj4 : j < 4 := by omega
      go_upto_region 9 with fail
      refine regT9 (b := w.heap.size) (w0 := w) (ga := w.heap.size) (gb := w.heap.size + 1) (gs := w6.heap.size) (gp := gp) (gq := gq) rfl hj4 rfl rfl rfl rfl hbR (by omega) (by omega) ra rb rs rp rq ⟨by omega, by omega, by omega, by omega, by omega, by omega, hpq⟩ ?_
      intro a9 w9 nb na nbb ns np nq hsz hdf hFr
      have ha := act_of slotsT9 19 rfl hsz hdf hFr
      rw [ha]
      simp only [slotsT9, List.foldl_cons, List.foldl_nil, Act.put, List.setIfInBounds_toArray, List.set_cons_succ, List.set_cons_zero]
      generalize slot a9 61 = s61
      generalize slot a9 62 = s62
      generalize slot a9 63 = s63
      generalize slot a9 64 = s64
      generalize slot a9 65 = s65
      generalize slot a9 66 = s66
      generalize slot a9 67 = s67
      generalize slot a9 68 = s68
      generalize slot a9 69 = s69
      generalize slot a9 70 = s70
      generalize slot a9 71 = s71
      generalize slot a9 72 = s72
      generalize slot a9 73 = s73
      generalize slot a9 74 = s74
      generalize slot a9 75 = s75
      generalize slot a9 76 = s76
      generalize slot a9 77 = s77
      generalize slot a9 79 = s79
      generalize slot a9 78 = s78
      clear ha hsz hdf hFr
      go_wp2
      go_roundw
      case rel => exact ⟨j + 1, by omega, by go_num, nb, na, nbb, ns, np.same fun i _ => mixW_step A S j i, nq.same fun i _ => mixW_step B S j i⟩
      case measure => simp [intOf]; omega
end
theorem oTc_bd (n : Int) (A B : Nat) : -1 ≤ oTc n A B ∧ oTc n A B ≤ 1 := by
  unfold oTc
  split
  · omega
  · exact oT_bd _ _ _
theorem turns20_v {TT : World → Prop} (h : OrdC TT) (hO : OrdT TT) (hN : OrdN TT) (n : Int) (A B : Nat) (w : World) (hT : TT w) (hA : A < 2 ^ 256) (hB : B < 2 ^ 256) :
    Calls Tryz.prog 3 #[.int .i64 n, A4 A, A4 B] w fun r w' => r = .returned (.bool true) ∧ Below w.heap.size w w' := by
  have c8 := fun W hW => awake20 h W hW
  have c9 := fun W => rgood_any n A hA W
  have c9b := fun W => rgood_any n B hB W
  by_cases hg : goodN n A ∧ goodN n B
  · obtain ⟨g1, g2⟩ := hg
    rw [decide_eq_true g1] at c9
    rw [decide_eq_true g2] at c9b
    have hb := g1.1
    obtain ⟨p1, p2⟩ := trP_is g1
    obtain ⟨q1, q2⟩ := trP_is g2
    obtain ⟨m1, m2⟩ := trn_M g1 g2
    have t1 := trn_Tc g1 g2
    obtain ⟨n1, n2, n3, n4⟩ := trn_N g1
    obtain ⟨hok, hb2, hpr, hex, hwd, hpy⟩ := bin_fields hb
    have hfe : fN n + eN n ≤ 300 := by rcases bin_cases hb with rfl | rfl | rfl | rfl | rfl | rfl <;> decide
    have hw1 : widthN n = (fN n : Int) + eN n + 1 := by rcases bin_cases hb with rfl | rfl | rfl | rfl | rfl | rfl <;> decide
    have hnt : numN n = n := by rcases bin_cases hb with rfl | rfl | rfl | rfl | rfl | rfl <;> decide
    have hwd2 : 1 ≤ widthN n ∧ widthN n ≤ 1000 := by omega
    have c19 := fun W => rofv_any n W
    have c24 : ∀ W v, NT 900 1 v W → Calls Tryz.prog 8 #[v, .int .i64 (widthN n - 1)] W fun r w' => ∃ u, r = .returned u ∧ NV 1000 (2 ^ (fN n + eN n)) u w' ∧ Below W.heap.size W w' := fun W v hv => by
      have q := rleft_nv (fN n + eN n) (by decide) (by omega) hv.nv
      rw [show ((fN n + eN n : Nat) : Int) = widthN n - 1 by omega, Nat.one_mul] at q
      exact q.mono fun r w' ⟨u, e1, e2, e3⟩ => ⟨u, e1, e2.more (by omega), e3⟩
    rw [show infoE n = 0 from if_pos hok, hnt] at c19
    have c34 := fun W hW => h.cm n A B W hA hB hW
    have c34b := fun W hW => h.cm n (trP n A) (trP n B) W (good_256 p1) (good_256 q1) hW
    rw [m1, m2] at c34b
    have c35 := fun W hW => hO.ttl n A B W hA hB hW
    have c35b := fun W hW => hO.ttl n (trP n A) (trP n B) W (good_256 p1) (good_256 q1) hW
    rw [t1] at c35b
    have c22 := fun W hW => hN.nx n A true W hA hW
    have c22b := fun W hW => hN.nx n (trP n A) false W (good_256 p1) hW
    rw [n3] at c22
    rw [n2, n4] at c22b
    exact tn20_y TT h.next w hT c8 n A B (2 ^ (fN n + eN n)) _ _ _ _ _ _ _ _ _ _ _ _ _ _ (trP_xor g1) (trP_xor g2) n1 rfl rfl (oMc_bd n A n B) (oTc_bd n A B) _ _ _ _ _ _ _ _ _ hwd2 c9 c9b c19 c24 (fun W v hv => bits_nv hv) c34 c34b c35 c35b c22 c22b
  · exact tn20_n TT h.next w hT c8 n A B _ _ (by rw [← Bool.decide_and]; exact decide_eq_false hg) c9 c9b
end Go.Proofs.YtgknbdehlmlipabGreatDoor

namespace Go.Proofs.YtgknbdehlmlipabGreatDoor
open Go.RowKit
theorem orderTurns_any (n : Int) (Ar Br : Nat) (w : World) (hT : Tab w) (hA : Ar < 2 ^ 256) (hB : Br < 2 ^ 256) :
    Calls Tryz.prog 3 #[.int .i64 n, A4 Ar, A4 Br] w fun r w' => r = .returned (.bool true) ∧ Below w.heap.size w w' := by
  exact turns20_v ordC ordT ordN n Ar Br w hT hA hB
end Go.Proofs.YtgknbdehlmlipabGreatDoor
