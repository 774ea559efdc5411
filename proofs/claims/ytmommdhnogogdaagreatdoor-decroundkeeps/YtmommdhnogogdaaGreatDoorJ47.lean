/-
  Texts that the proof leans on, joined: Un.
-/
import Derived.Test.YtmommdhnogogdaaGreatDoorJ46
import Derived.Test.YtmommdhnogogdaaGreatDoorJ12
import Derived.Test.YtmommdhnogogdaaGreatDoorJ1
set_option linter.unusedVariables false
set_option linter.unusedSectionVars false
set_option linter.unusedSimpArgs false
set_option maxRecDepth 20000
namespace Go.Proofs.YtmommdhnogogdaaGreatDoor
open Go.RowKit
attribute [local irreducible] W4 Nt
section
variable (TT : World → Prop) (hTT : ∀ w w', TT w → Below w.heap.size w w' → TT w')
variable (n d x : Int) (B : Nat) (an : Option Addr) (kn cn : Nat) (w : World) (hT : TT w)
  (c9 : ∀ W, TT W → Calls Tryz.prog 5 #[] W fun r w' => r = .returned (.bool true) ∧ Below W.heap.size W w')
include hTT hT c9
variable (h : ¬ (500 : Int) < (kn : Int)) (vc vx : Int) (vs vg : Bool) (vk : Nat) (F E : Int)
    (c10 : ∀ W, TT W → Below w.heap.size w W → Calls Tryz.prog 6 #[.int .i64 n, .int .i64 d, .bool false, .slice an kn cn, .int .i64 x] W fun r w' => r = .returned (.tuple #[DV vc vs vg vx vk, .int .i64 F, .int .i64 E]) ∧ Below W.heap.size W w')
    (c11 : ∀ W, Below w.heap.size w W → Calls Tryz.prog 7 #[.int .i64 n, .int .i64 d, .bool false, .slice an kn cn, .int .i64 x] W fun r w' => r = .returned (.tuple #[DV vc vs vg vx vk, .int .i64 F, .int .i64 E]) ∧ Below W.heap.size W w')
    (uc ux : Int) (us ug R : Bool) (uk : Nat) (G : Int)
    (c12 : ∀ W, Calls Tryz.prog 8 #[.int .i64 n, A4 B] W fun r w' => r = .returned (.tuple #[DV uc us ug ux uk, .bool R, .int .i64 G]) ∧ Below W.heap.size W w')
include h c10 c11 c12
set_option maxHeartbeats 4000000 in
theorem keeps15_k (hG : G = 0) (hc : uc = 1) (huk : uk < 2 ^ 256) (c13 : ∀ W, Calls Tryz.prog 9 #[.int .i64 d] W fun r w' => r = .returned (.bool true) ∧ W = w')
    (c14 : ∀ W v, TT W → Nt 4 uk v W → Calls Tryz.prog 6 #[.int .i64 n, .int .i64 d, .bool us, v, .int .i64 ux] W fun r w' => r = .returned (.tuple #[DV uc us ug ux uk, .int .i64 0, .int .i64 0]) ∧ Below W.heap.size W w') :
    Calls Tryz.prog 3 #[.int .i64 n, .int .i64 d, A4 B, .slice an kn cn, .int .i64 x] w fun r w' => r = .returned (.bool true) ∧ Below w.heap.size w w' := by
  have hQ := DV_same vc vx vs vg vk
  have hQ2 := DV_same uc ux us ug uk
  subst hG hc
  have hsm := cell_set_map
  unfold DV A4 at *
  go_enter Tryz.func3, Tryz.ntmps3
  go_wp2_with (first
    | (go_at_call 5; refine (c9 _ (hTT _ _ hT bgo)).mono ?_; rintro r w1 ⟨rfl, hb1⟩; obtain ⟨hc1, hf1⟩ := bcell hb1; have hz1_0 : w.heap.size < w1.heap.size := lt_below hb1 ltg; have hl1_0 := Nat.le_of_lt hz1_0; have hA1 := bnext (w0 := w) bgo hb1; have hs1 := hA1.size; clear hb1)
    | (go_at_call 6; refine (c10 _ (hTT _ _ hT bgo) bgo).mono ?_; rintro r w2 ⟨rfl, hb2⟩; clear c10; obtain ⟨hc2, hf2⟩ := bcell hb2; have hz2_0 : w.heap.size < w2.heap.size := lt_below hb2 ltg; have hl2_0 := Nat.le_of_lt hz2_0; have hA2 := bnext (w0 := w) bgo hb2; have hs2 := hA2.size; clear hb2)
    | (go_at_call 7; refine (c11 _ bgo).mono ?_; rintro r w3 ⟨rfl, hb3⟩; obtain ⟨hc3, hf3⟩ := bcell hb3; have hz3_0 : w.heap.size < w3.heap.size := lt_below hb3 ltg; have hl3_0 := Nat.le_of_lt hz3_0; have hz3_1 : w2.heap.size < w3.heap.size := lt_below hb3 ltg; have hl3_1 := Nat.le_of_lt hz3_1; have hA3 := bnext (w0 := w) bgo hb3; have hs3 := hA3.size; clear hb3)
    | (go_at_call 8; refine (c12 _).mono ?_; rintro r w4 ⟨rfl, hb4⟩; obtain ⟨hc4, hf4⟩ := bcell hb4; have hz4_0 : w.heap.size < w4.heap.size := lt_below hb4 ltg; have hl4_0 := Nat.le_of_lt hz4_0; have hz4_1 : w2.heap.size < w4.heap.size := lt_below hb4 ltg; have hl4_1 := Nat.le_of_lt hz4_1; have hz4_2 : w3.heap.size < w4.heap.size := lt_below hb4 ltg; have hl4_2 := Nat.le_of_lt hz4_2; have hA4 := bnext (w0 := w) bgo hb4; have hs4 := hA4.size; clear hb4)
    | (go_at_call 9; refine (c13 _).mono ?_; rintro r w5 ⟨rfl, rfl⟩))
  have hTW := hTT _ (w4.alloc (.cells #[.int .i64 1, .bool us, .bool ug, .int .i64 ux, .int .u64 (W4 uk 0), .int .u64 (W4 uk 1), .int .u64 (W4 uk 2), .int .u64 (W4 uk 3)] 28)) hT bgo
  refine wp_made 9 13 20 #[.int .i64 0, .bool false, .bool false, .int .i64 0, .int .u64 0, .int .u64 0, .int .u64 0, .int .u64 0] (by kernel_rfl) (by kernel_rfl) (by kernel_rfl) rfl (fun oa hoa a w => ?_) (by kernel_rfl) (by kernel_rfl) rfl rfl (fun _ _ d _ _ h => by cases d <;> exact h) ?_
  · cases hoa; exact ⟨28, by simp [go_sem]⟩
  apply Exists.intro
  refine ⟨fun al hne hcell => ?_, fun w6 hb6 => ?_, fun g w6 hb6 hg0 hg1 hg2 hg3 => ?_⟩
  · simp only [List.take_succ_cons, List.take_zero]
    repeat go_big_quiet_step (fail)
    go_big_quiet_step ((go_at_call 6; exact calls_wd _ al_next (c14 _ _ (hTT _ _ hTW (al_below (Wd.h _))) (dat_box (w0 := w4) (t := 28) huk (al_below (Wd.h _))))))
    exact wpQuiet_nil rfl
  · simp only [List.drop_succ_cons, List.drop_zero]
    obtain ⟨hc6, hf6⟩ := bcell hb6; have hz6_0 : w.heap.size < w6.heap.size := lt_below hb6 ltg; have hl6_0 := Nat.le_of_lt hz6_0; have hz6_1 : w2.heap.size < w6.heap.size := lt_below hb6 ltg; have hl6_1 := Nat.le_of_lt hz6_1; have hz6_2 : w3.heap.size < w6.heap.size := lt_below hb6 ltg; have hl6_2 := Nat.le_of_lt hz6_2; have hz6_3 : w4.heap.size < w6.heap.size := lt_below hb6 ltg; have hl6_3 := Nat.le_of_lt hz6_3; have hA6 := bnext (w0 := w) bgo hb6; have hs6 := hA6.size; clear hb6
    go_wp2
    go_ret
    exact ⟨by first | rfl | simp, bgo⟩
  · simp only [List.drop_succ_cons, List.drop_zero, Nat.reduceSub, List.eraseIdx_cons_succ, List.eraseIdx_cons_zero]
    simp only [World.size_alloc] at hg0
    have hz0 : g ≠ w.heap.size := by omega
    have hz2 : g ≠ w2.heap.size := by omega
    have hz3 : g ≠ w3.heap.size := by omega
    have hz4 : g ≠ w4.heap.size := by omega
    have hg2' : ∀ i, w6.cell? ⟨g, i, none⟩ = (#[Value.int .i64 0, .bool false, .bool false, .int .i64 0, .int .u64 0, .int .u64 0, .int .u64 0, .int .u64 0] : Array Value)[i]? := hg2
    obtain ⟨hc6, hf6⟩ := bcell hb6; have hz6_0 : w.heap.size < w6.heap.size := lt_below hb6 ltg; have hl6_0 := Nat.le_of_lt hz6_0; have hz6_1 : w2.heap.size < w6.heap.size := lt_below hb6 ltg; have hl6_1 := Nat.le_of_lt hz6_1; have hz6_2 : w3.heap.size < w6.heap.size := lt_below hb6 ltg; have hl6_2 := Nat.le_of_lt hz6_2; have hz6_3 : w4.heap.size < w6.heap.size := lt_below hb6 ltg; have hl6_3 := Nat.le_of_lt hz6_3; have hA6 := bnext (w0 := w) bgo hb6; have hs6 := hA6.size; clear hb6
    go_wp2
    go_ret
    exact ⟨by first | rfl | simp, bgo⟩
end
end Go.Proofs.YtmommdhnogogdaaGreatDoor
