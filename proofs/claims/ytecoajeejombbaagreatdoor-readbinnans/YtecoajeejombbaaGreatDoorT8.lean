/-
  Texts that the proof leans on, joined: Xr.
-/
import Derived.Test.YtecoajeejombbaaGreatDoorT7
import Derived.Test.YtecoajeejombbaaGreatDoorJ1
import Derived.Test.YtecoajeejombbaaGreatDoorTE
set_option linter.unusedVariables false
set_option linter.unusedSectionVars false
set_option linter.unusedSimpArgs false
set_option maxRecDepth 20000
namespace Go.Proofs.YtecoajeejombbaaGreatDoor
open Go.RowKit

theorem tenth_A : A4 1036831949 = .agg #[.int .u64 1036831949, .int .u64 0, .int .u64 0, .int .u64 0] := by
  unfold A4; rw [show W4 1036831949 0 = 1036831949 by decide, show W4 1036831949 1 = 0 by decide, show W4 1036831949 2 = 0 by decide, show W4 1036831949 3 = 0 by decide]
attribute [local irreducible] W4
section
variable (n d : Int) (l : List UInt8) (q : Prt) (nm : ByteArray) (wd : Int) (f e : Nat) (lo m : Int) (w : World)
set_option maxHeartbeats 2000000 in
theorem read_c (hT : Tab w) (E : Int) (hE : (E != 0) = true) (c28 : ∀ W, Tab W → Calls Tryz.prog 28 #[.int .i64 n, .int .i64 d] W fun r w' => r = .returned (.tuple #[DI n nm wd f e lo m, .int .i64 0]) ∧ Below W.heap.size W w')
    (c29 : ∀ W, Calls Tryz.prog 29 #[.string (B l)] W fun r w' => r = .returned (.tuple #[PV q.cls q.sg q.sn q.dig q.ex, .int .i64 E]) ∧ Below W.heap.size W w') :
    Calls Tryz.prog 10 #[.int .i64 n, .int .i64 d, .string (B l)] w fun r w' => r = .returned (.tuple #[Z4, .int .i64 0, .int .i64 E]) ∧ Below w.heap.size w w' := by
  have hsm := cell_set_map
  unfold PV at *
  go_enter Tryz.func10, Tryz.ntmps10
  go_wp2_with (first
    | (go_at_call 28; refine (c28 _ (hT.go bgo)).mono ?_; rintro r w1 ⟨rfl, hb1⟩; obtain ⟨hc1, hf1⟩ := bcell hb1; have hz1_0 : w.heap.size < w1.heap.size := lt_below hb1 ltg; have hl1_0 := Nat.le_of_lt hz1_0; have hA1 := bnext (w0 := w) bgo hb1; have hs1 := hA1.size; clear hb1)
    | (go_at_call 29; refine (c29 _).mono ?_; rintro r w2 ⟨rfl, hb2⟩; obtain ⟨hc2, hf2⟩ := bcell hb2; have hz2_0 : w.heap.size < w2.heap.size := lt_below hb2 ltg; have hl2_0 := Nat.le_of_lt hz2_0; have hz2_1 : w1.heap.size < w2.heap.size := lt_below hb2 ltg; have hl2_1 := Nat.le_of_lt hz2_1; have hA2 := bnext (w0 := w) bgo hb2; have hs2 := hA2.size; clear hb2))
  exact bodyPost_ret (v := .tuple #[Z4, .int .i64 0, .int .i64 E]) (by simp only [results, Tryz.results10]; go_simp) rfl ⟨rfl, bgo⟩
set_option maxHeartbeats 2000000 in
theorem read_k (hT : Tab w) (V : Nat) (F E : Int) (c28 : ∀ W, Tab W → Calls Tryz.prog 28 #[.int .i64 n, .int .i64 d] W fun r w' => r = .returned (.tuple #[DI n nm wd f e lo m, .int .i64 0]) ∧ Below W.heap.size W w')
    (c29 : ∀ W, Calls Tryz.prog 29 #[.string (B l)] W fun r w' => r = .returned (.tuple #[PV q.cls q.sg q.sn q.dig q.ex, .int .i64 0]) ∧ Below W.heap.size W w')
    (c12 : ∀ W, Below w.heap.size w W → Calls Tryz.prog 12 #[.int .i64 n, .int .i64 d, PV q.cls q.sg q.sn q.dig q.ex] W fun r w' => r = .returned (.tuple #[A4 V, .int .i64 F, .int .i64 E]) ∧ Below W.heap.size W w') :
    Calls Tryz.prog 10 #[.int .i64 n, .int .i64 d, .string (B l)] w fun r w' => r = .returned (.tuple #[A4 V, .int .i64 F, .int .i64 E]) ∧ Below w.heap.size w w' := by
  have hsm := cell_set_map
  unfold PV at *
  go_enter Tryz.func10, Tryz.ntmps10
  go_wp2_with (first
    | (go_at_call 28; refine (c28 _ (hT.go bgo)).mono ?_; rintro r w1 ⟨rfl, hb1⟩; obtain ⟨hc1, hf1⟩ := bcell hb1; have hz1_0 : w.heap.size < w1.heap.size := lt_below hb1 ltg; have hl1_0 := Nat.le_of_lt hz1_0; have hA1 := bnext (w0 := w) bgo hb1; have hs1 := hA1.size; clear hb1)
    | (go_at_call 29; refine (c29 _).mono ?_; rintro r w2 ⟨rfl, hb2⟩; obtain ⟨hc2, hf2⟩ := bcell hb2; have hz2_0 : w.heap.size < w2.heap.size := lt_below hb2 ltg; have hl2_0 := Nat.le_of_lt hz2_0; have hz2_1 : w1.heap.size < w2.heap.size := lt_below hb2 ltg; have hl2_1 := Nat.le_of_lt hz2_1; have hA2 := bnext (w0 := w) bgo hb2; have hs2 := hA2.size; clear hb2)
    | (go_at_call 12; refine (c12 _ bgo).mono ?_; rintro r w3 ⟨rfl, hb3⟩; obtain ⟨hc3, hf3⟩ := bcell hb3; have hz3_0 : w.heap.size < w3.heap.size := lt_below hb3 ltg; have hl3_0 := Nat.le_of_lt hz3_0; have hz3_1 : w1.heap.size < w3.heap.size := lt_below hb3 ltg; have hl3_1 := Nat.le_of_lt hz3_1; have hz3_2 : w2.heap.size < w3.heap.size := lt_below hb3 ltg; have hl3_2 := Nat.le_of_lt hz3_2; have hA3 := bnext (w0 := w) bgo hb3; have hs3 := hA3.size; clear hb3))
  exact bodyPost_ret (v := .tuple #[A4 V, .int .i64 F, .int .i64 E]) (by simp only [results, Tryz.results10]; go_simp) rfl ⟨rfl, bgo⟩
variable (c22 : ∀ W, Calls Tryz.prog 22 #[.int .i64 n] W fun r w' => r = .returned (.bool true) ∧ W = w')
include c22
variable (c15 : ∀ W, Calls Tryz.prog 15 #[.int .i64 d] W fun r w' => r = .returned (.bool true) ∧ W = w')
include c15
end
theorem cut_ex {l : List UInt8} {p : Prt} (h : cutP l = some p) : -9223372036854775808 ≤ p.ex ∧ p.ex ≤ 9223372036854775807 := by
  rcases (cut_good h).2 with ⟨_, _, h⟩ | h | h
  · omega
  · obtain ⟨_, _, _, h⟩ := h
    omega
  · obtain ⟨_, h⟩ := h
    omega
theorem tenth_ld : ld 1 5 = -3 := by
  have e1 : bl 1 = 1 := bl_eq (by decide) (by decide)
  have e3 : bl 5 = 3 := bl_eq (by decide) (by decide)
  unfold ld
  rw [e1, e3]
  decide
theorem tenth_X : rX 3 1 5 (-1) = -1 := by unfold rX; rw [tenth_ld]; decide
theorem tenth_Q : rQ 3 1 5 (-1) = -27 := by unfold rQ; rw [tenth_ld, tenth_X]; decide
theorem tenth_C : rC 3 0 false 1 5 (-1) = 13421773 := by unfold rC; rw [tenth_X, tenth_Q]; decide
theorem tenth_bl : bl 13421773 = 24 := bl_eq (by decide) (by decide)
theorem tenth_V : rdV 3 0 false 1 5 (-1) = 1036831949 := by
  unfold rdV rQ' rC'
  rw [tenth_C, tenth_bl, tenth_Q]
  decide
theorem tenth_F : rdF 3 0 false 1 5 (-1) = 8 := by
  unfold rdF rQ'
  rw [tenth_C, tenth_bl, tenth_Q, tenth_X, tenth_ld]
  decide
theorem tenth_cut : cutE [48, 46, 49] = 0 ∧ cutV [48, 46, 49] = ⟨1, false, false, [49], -1⟩ := by
  have h : cutP [48, 46, 49] = some ⟨1, false, false, [49], -1⟩ := by kernel_rfl
  exact cutE_some h
theorem tenth_jn : jnP ⟨1, false, false, [49], -1⟩ := by
  refine jn_of_gd ⟨Or.inr ⟨by decide, by decide⟩, Or.inl ⟨rfl, rfl, by decide, of_decide_eq_true (by kernel_rfl)⟩⟩
theorem read_tenth (W : World) (hT : Tab W) (hT10 : Tb10 W) : Calls Tryz.prog 10 #[.int .i64 3, .int .i64 0, .string (B [48, 46, 49])] W fun r w' => r = .returned (.tuple #[A4 1036831949, .int .i64 8, .int .i64 0]) ∧ Below W.heap.size W w' := by
  have hg : binN 3 ∧ knB 0 := ⟨by decide, by decide⟩
  have c29 := fun W => cut_any [48, 46, 49] W (by decide)
  rw [tenth_cut.1, tenth_cut.2] at c29
  have c32 := fun W' (hT' : Tab W') => finite8 3 0 1 false false [49] (-1) W' hT' hg.1 hg.2 (by decide) (by decide)
  have e1 : tN (dV [49]) (pwE [(49 : UInt8)].length (-1)) = 1 := by decide
  have e2 : tD (pwE [(49 : UInt8)].length (-1)) = 5 := by decide
  have e3 : pwE [(49 : UInt8)].length (-1) = -1 := by decide
  rw [e1, e2, e3, tenth_V, tenth_F] at c32
  exact read_k 3 0 _ ⟨1, false, false, [49], -1⟩ _ _ _ _ _ _ W hT _ _ _ (fun W' hT' => rck_good 3 0 W' hT' hg) c29 (fun W' hW' => make_1 3 0 1 false false [49] (-1) _ _ _ _ _ _ _ W' (hT.go hW') (fun W'' hT'' => rck_good 3 0 W'' hT'' hg) (fun W'' hW'' => join_y ⟨1, false, false, [49], -1⟩ W'' ((hT10.next hW').next hW'') (by decide) tenth_jn) rfl _ _ _ c32)
set_option maxHeartbeats 1000000 in
theorem awake8 (w : World) (hT : Tab w) (hT10 : Tb10 w) : Calls Tryz.prog 9 #[] w fun x w' => x = .returned (.bool true) ∧ Below w.heap.size w w' := by
  have c10 := read_tenth w hT hT10
  rw [tenth_A] at c10
  have h24 := eq24 1036831949 0 0 0 1036831949 0 0 0
  have hsm := cell_set_map
  go_enter Tryz.func9, Tryz.ntmps9
  go_wp2_with (go_at_call 10; refine c10.mono ?_; rintro r w1 ⟨rfl, hb1⟩; obtain ⟨hc1, hf1⟩ := bcell hb1; have hA1 := bnext (w0 := w) bgo hb1; have hs1 := hA1.size; clear hb1)
  go_ret
  exact ⟨by simp, bgo⟩
section
variable (n d : Int) (l : List UInt8) (w : World) (hT : Tab w) (hT10 : Tb10 w)
include hT hT10
end
end Go.Proofs.YtecoajeejombbaaGreatDoor
