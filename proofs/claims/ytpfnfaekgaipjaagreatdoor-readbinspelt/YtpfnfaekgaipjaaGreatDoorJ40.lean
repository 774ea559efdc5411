/-
  Texts that the proof leans on, joined: Yg.
-/
import Derived.Test.YtpfnfaekgaipjaaGreatDoorJ34
import Derived.Test.YtpfnfaekgaipjaaGreatDoorJ31
import Derived.Test.YtpfnfaekgaipjaaGreatDoorJ29
import Derived.Test.YtpfnfaekgaipjaaGreatDoorJ1
set_option linter.unusedVariables false
set_option linter.unusedSectionVars false
set_option linter.unusedSimpArgs false
set_option maxRecDepth 20000
namespace Go.Proofs.YtpfnfaekgaipjaaGreatDoor
open Go.RowKit

attribute [local irreducible] W4
abbrev PW (s : Bool) (b : ByteArray) (e : Int) : Value := .agg #[.int .i64 1, .bool s, .bool false, .string b, .int .i64 e]
/-- both parts lie in blocks of their own -/
structure SpW (w : World) (gp gq : Nat) (s : Bool) (bp bq : ByteArray) (ep eq : Int) (wr : World) : Prop where
  bel : Below w.heap.size w wr
  lp : gp < wr.heap.size
  lq : gq < wr.heap.size
  p0 : wr.cell? ⟨gp, 0, none⟩ = some (.int .i64 1)
  p1 : wr.cell? ⟨gp, 1, none⟩ = some (.bool s)
  p2 : wr.cell? ⟨gp, 2, none⟩ = some (.bool false)
  p3 : wr.cell? ⟨gp, 3, none⟩ = some (.string bp)
  p4 : wr.cell? ⟨gp, 4, none⟩ = some (.int .i64 ep)
  q0 : wr.cell? ⟨gq, 0, none⟩ = some (.int .i64 1)
  q1 : wr.cell? ⟨gq, 1, none⟩ = some (.bool s)
  q2 : wr.cell? ⟨gq, 2, none⟩ = some (.bool false)
  q3 : wr.cell? ⟨gq, 3, none⟩ = some (.string bq)
  q4 : wr.cell? ⟨gq, 4, none⟩ = some (.int .i64 eq)
  f3 : wr.frozen? ⟨gq, 3, none⟩ = false
  f4 : wr.frozen? ⟨gq, 4, none⟩ = false
section
variable (n d V ex z : Int) (sg : Bool) (w : World) (hT : Tab w) (hT10 : Tb10 w)
include hT hT10
set_option maxHeartbeats 2000000 in
theorem sp_nb (c15 : ∀ W, Calls Tryz.prog 15 #[.int .i64 n] W fun r w' => r = .returned (.bool false) ∧ W = w') :
    Calls Tryz.prog 4 #[.int .i64 n, .int .i64 d, .int .u64 V, .int .i16 ex, .int .u8 z, .bool sg] w fun r w' => r = .returned (.bool true) ∧ Below w.heap.size w w' := by
  have c5 := awake8
  have hB : Below w.heap.size w w := Below.refl _ _
  go_enter Tryz.func4, Tryz.ntmps4
  go_wp2_with (first
    | (go_at_call 5; refine (c5 _ (hT.go hB) (hT10.next hB)).mono ?_; rintro r w1 ⟨rfl, hb1⟩; replace hB := bnext hB hb1; clear hb1)
    | (go_at_call 15; refine (c15 _).mono ?_; rintro r w1 ⟨rfl, rfl⟩))
  go_ret
  exact ⟨rfl, hB⟩
variable (c15 : ∀ W, Calls Tryz.prog 15 #[.int .i64 n] W fun r w' => r = .returned (.bool true) ∧ W = w')
include c15
set_option maxHeartbeats 2000000 in
theorem sp_nd (c7 : ∀ W, Calls Tryz.prog 7 #[.int .i64 d] W fun r w' => r = .returned (.bool false) ∧ W = w') :
    Calls Tryz.prog 4 #[.int .i64 n, .int .i64 d, .int .u64 V, .int .i16 ex, .int .u8 z, .bool sg] w fun r w' => r = .returned (.bool true) ∧ Below w.heap.size w w' := by
  have c5 := awake8
  have hB : Below w.heap.size w w := Below.refl _ _
  go_enter Tryz.func4, Tryz.ntmps4
  go_wp2_with (first
    | (go_at_call 5; refine (c5 _ (hT.go hB) (hT10.next hB)).mono ?_; rintro r w1 ⟨rfl, hb1⟩; replace hB := bnext hB hb1; clear hb1)
    | (go_at_call 15; refine (c15 _).mono ?_; rintro r w1 ⟨rfl, rfl⟩)
    | (go_at_call 7; refine (c7 _).mono ?_; rintro r w1 ⟨rfl, rfl⟩))
  go_ret
  exact ⟨rfl, hB⟩
variable (c7 : ∀ W, Calls Tryz.prog 7 #[.int .i64 d] W fun r w' => r = .returned (.bool true) ∧ W = w')
  (D T : List UInt8) (k X : Nat) (F : Int) (hD : D.length ≤ 100) (hk : z % 30 = (k : Int)) (hk30 : k < 30) (hz : 0 ≤ z ∧ z ≤ 255) (hex : -32768 ≤ ex ∧ ex ≤ 32767)
  (c12 : ∀ W, Calls Tryz.prog 12 #[.slice (some ⟨W.heap.size, 0, none⟩) 1 1] (W.alloc (.cells #[.int .u64 V] 22)) fun r w' => r = .returned (.string (B D)) ∧ Below W.heap.size W w')
  (c16p : ∀ W, Tab W → Tb10 W → Calls Tryz.prog 16 #[.int .i64 n, .int .i64 d, PW sg (B D) ex] W fun r w' => r = .returned (.tuple #[A4 X, .int .i64 F, .int .i64 0]) ∧ Below W.heap.size W w')
  (c17 : ∀ W, Tb10 W → Calls Tryz.prog 17 #[PW sg (B D) ex] W fun r w' => r = .returned (.tuple #[.string (B T), .int .i64 0]) ∧ Below W.heap.size W w')
  (c13 : ∀ W, Tab W → Tb10 W → Calls Tryz.prog 13 #[.int .i64 n, .int .i64 d, .string (B T)] W fun r w' => r = .returned (.tuple #[A4 X, .int .i64 F, .int .i64 0]) ∧ Below W.heap.size W w')
include c7 hD hk hk30 hz hex c12 c16p c17 c13
set_option maxHeartbeats 4000000 in
theorem sp_k (hne : D ≠ []) (c16q : ∀ W, Tab W → Tb10 W → Calls Tryz.prog 16 #[.int .i64 n, .int .i64 d, PW sg (B (D ++ List.replicate k 48)) (ex - k)] W fun r w' => r = .returned (.tuple #[A4 X, .int .i64 F, .int .i64 0]) ∧ Below W.heap.size W w') :
    Calls Tryz.prog 4 #[.int .i64 n, .int .i64 d, .int .u64 V, .int .i16 ex, .int .u8 z, .bool sg] w fun r w' => r = .returned (.bool true) ∧ Below w.heap.size w w' := by
  have c5 := awake8
  have hself := A4_self X
  have hsm := cell_set_map
  have hnB : (B D).toList.isEmpty = false := by
    rw [B_toList]
    cases D with
    | nil => exact absurd rfl hne
    | cons y ys => rfl
  have HNE : Hid (D ≠ []) := hne
  clear hne
  unfold A4 at *
  go_enter Tryz.func4, Tryz.ntmps4
  go_wp2_with (first
    | (go_at_call 5; refine (c5 _ (hT.go bgo) (hT10.next bgo)).mono ?_; rintro r w1 ⟨rfl, hb1⟩; obtain ⟨hc1, hf1⟩ := bcell hb1; have hA1 := bnext (w0 := w) bgo hb1; have hs1 := hA1.size; clear hb1)
    | (go_at_call 15; refine (c15 _).mono ?_; rintro r w9 ⟨rfl, rfl⟩)
    | (go_at_call 7; refine (c7 _).mono ?_; rintro r w9 ⟨rfl, rfl⟩)
    | (go_at_call 12; refine (c12 _).mono ?_; rintro r w2 ⟨rfl, hb2⟩; obtain ⟨hc2, hf2⟩ := bcell hb2; have hA2 := bnext (w0 := w) bgo hb2; have hs2 := hA2.size; clear hb2))
  go_loopw [54] (fun t54 wr => ∃ j : Nat, j ≤ k ∧ t54 = .int .i64 (j : Int) ∧ SpW w w2.heap.size (w2.heap.size + 1) sg (B D) (B (D ++ List.replicate j 48)) ex (ex - (j : Int)) wr) (fun t54 _ => k - (intOf t54).toNat)
  case atStart =>
    refine ⟨0, Nat.zero_le _, rfl, ?_⟩
    rw [List.replicate_zero, List.append_nil, show ex - ((0 : Nat) : Int) = ex by omega]
    refine ⟨bgo, by simp; omega, by simp, ?_, ?_, ?_, ?_, ?_, ?_, ?_, ?_, ?_, ?_, ?_, ?_⟩ <;> go_simp
  case round =>
    obtain ⟨j, hj, rfl, hS⟩ := hrel
    obtain ⟨hA9, lp, lq, p0, p1, p2, p3, p4, q0, q1, q2, q3, q4, f3, f4⟩ := hS
    have hs9 := hA9.size
    have lpq : w2.heap.size ≠ w2.heap.size + 1 := by omega
    by_cases hjk : j = k
    · subst hjk
      go_wp2_with (first
        | (have := hA3; go_at_call 16; refine (c16q _ (hT.go bgo) (hT10.next bgo)).mono ?_; rintro r w4 ⟨rfl, hb4⟩; obtain ⟨hc4, hf4⟩ := bcell hb4; have hz4_0 : w2.heap.size < w4.heap.size := lt_below hb4 ltg; have hl4_0 := Nat.le_of_lt hz4_0; have hz4_1 : w2.heap.size + 1 < w4.heap.size := lt_below hb4 ltg; have hl4_1 := Nat.le_of_lt hz4_1; have hz4_2 : w3.heap.size < w4.heap.size := lt_below hb4 ltg; have hl4_2 := Nat.le_of_lt hz4_2; have hA4 := bnext (w0 := w) bgo hb4; have hs4 := hA4.size; clear hb4)
        | (go_at_call 16; refine (c16p _ (hT.go bgo) (hT10.next bgo)).mono ?_; rintro r w3 ⟨rfl, hb3⟩; obtain ⟨hc3, hf3⟩ := bcell hb3; have hz3_0 : w2.heap.size < w3.heap.size := lt_below hb3 ltg; have hl3_0 := Nat.le_of_lt hz3_0; have hz3_1 : w2.heap.size + 1 < w3.heap.size := lt_below hb3 ltg; have hl3_1 := Nat.le_of_lt hz3_1; have hA3 := bnext (w0 := w) bgo hb3; have hs3 := hA3.size; clear hb3)
        | (go_at_call 17; refine (c17 _ (hT10.next bgo)).mono ?_; rintro r w5 ⟨rfl, hb5⟩; obtain ⟨hc5, hf5⟩ := bcell hb5; have hz5_0 : w3.heap.size < w5.heap.size := lt_below hb5 ltg; have hl5_0 := Nat.le_of_lt hz5_0; have hz5_1 : w4.heap.size < w5.heap.size := lt_below hb5 ltg; have hl5_1 := Nat.le_of_lt hz5_1; have hA5 := bnext (w0 := w) bgo hb5; have hs5 := hA5.size; clear hb5)
        | (go_at_call 13; refine (c13 _ (hT.go bgo) (hT10.next bgo)).mono ?_; rintro r w6 ⟨rfl, hb6⟩; obtain ⟨hc6, hf6⟩ := bcell hb6; have hz6_0 : w3.heap.size < w6.heap.size := lt_below hb6 ltg; have hl6_0 := Nat.le_of_lt hz6_0; have hz6_1 : w4.heap.size < w6.heap.size := lt_below hb6 ltg; have hl6_1 := Nat.le_of_lt hz6_1; have hA6 := bnext (w0 := w) bgo hb6; have hs6 := hA6.size; clear hb6))
      go_ret
      exact ⟨by simp, bgo⟩
    · have hlt : (j : Int) < k := by omega
      have eL : B (D ++ List.replicate j 48) ++ (⟨#[48]⟩ : ByteArray) = B (D ++ List.replicate (j + 1) 48) := by
        rw [List.replicate_succ', ← List.append_assoc]
        exact B_app _ [48]
      have zL : (B (D ++ List.replicate j 48)).size = D.length + j := by rw [B_size, List.length_append, List.length_replicate]
      generalize B (D ++ List.replicate j 48) = bj at *
      go_wp2
      go_round
      case rel =>
        refine ⟨j + 1, by omega, by congr 1, ?_⟩
        rw [← eL, show ex - ((j + 1 : Nat) : Int) = ex - (j : Int) - 1 by omega]
        refine ⟨bgo, by simp; exact lp, by simp; exact lq, ?_, ?_, ?_, ?_, ?_, ?_, ?_, ?_, ?_, ?_, ?_, ?_⟩ <;> go_simp
      case measure => simp [intOf]; omega
set_option maxHeartbeats 4000000 in
theorem sp_e (hne : D = []) :
    Calls Tryz.prog 4 #[.int .i64 n, .int .i64 d, .int .u64 V, .int .i16 ex, .int .u8 z, .bool sg] w fun r w' => r = .returned (.bool true) ∧ Below w.heap.size w w' := by
  have c5 := awake8
  have hself := A4_self X
  have hsm := cell_set_map
  have hnB : (B D).toList.isEmpty = true := by
    rw [B_toList, hne]; rfl
  clear hne
  unfold A4 at *
  go_enter Tryz.func4, Tryz.ntmps4
  go_wp2_with (first
    | (go_at_call 5; refine (c5 _ (hT.go bgo) (hT10.next bgo)).mono ?_; rintro r w1 ⟨rfl, hb1⟩; obtain ⟨hc1, hf1⟩ := bcell hb1; have hA1 := bnext (w0 := w) bgo hb1; have hs1 := hA1.size; clear hb1)
    | (go_at_call 15; refine (c15 _).mono ?_; rintro r w9 ⟨rfl, rfl⟩)
    | (go_at_call 7; refine (c7 _).mono ?_; rintro r w9 ⟨rfl, rfl⟩)
    | (go_at_call 12; refine (c12 _).mono ?_; rintro r w2 ⟨rfl, hb2⟩; obtain ⟨hc2, hf2⟩ := bcell hb2; have hA2 := bnext (w0 := w) bgo hb2; have hs2 := hA2.size; clear hb2))
  go_loopw [54] (fun t54 wr => ∃ j : Nat, j ≤ k ∧ t54 = .int .i64 (j : Int) ∧ SpW w w2.heap.size (w2.heap.size + 1) sg (B D) (B D) ex ex wr) (fun t54 _ => k - (intOf t54).toNat)
  case atStart =>
    refine ⟨0, Nat.zero_le _, rfl, ?_⟩
    refine ⟨bgo, by simp; omega, by simp, ?_, ?_, ?_, ?_, ?_, ?_, ?_, ?_, ?_, ?_, ?_, ?_⟩ <;> go_simp
  case round =>
    obtain ⟨j, hj, rfl, hS⟩ := hrel
    obtain ⟨hA9, lp, lq, p0, p1, p2, p3, p4, q0, q1, q2, q3, q4, f3, f4⟩ := hS
    have hs9 := hA9.size
    have lpq : w2.heap.size ≠ w2.heap.size + 1 := by omega
    by_cases hjk : j = k
    · subst hjk
      go_wp2_with (first
        | (have := hA3; go_at_call 16; refine (c16p _ (hT.go bgo) (hT10.next bgo)).mono ?_; rintro r w4 ⟨rfl, hb4⟩; obtain ⟨hc4, hf4⟩ := bcell hb4; have hz4_0 : w2.heap.size < w4.heap.size := lt_below hb4 ltg; have hl4_0 := Nat.le_of_lt hz4_0; have hz4_1 : w2.heap.size + 1 < w4.heap.size := lt_below hb4 ltg; have hl4_1 := Nat.le_of_lt hz4_1; have hz4_2 : w3.heap.size < w4.heap.size := lt_below hb4 ltg; have hl4_2 := Nat.le_of_lt hz4_2; have hA4 := bnext (w0 := w) bgo hb4; have hs4 := hA4.size; clear hb4)
        | (go_at_call 16; refine (c16p _ (hT.go bgo) (hT10.next bgo)).mono ?_; rintro r w3 ⟨rfl, hb3⟩; obtain ⟨hc3, hf3⟩ := bcell hb3; have hz3_0 : w2.heap.size < w3.heap.size := lt_below hb3 ltg; have hl3_0 := Nat.le_of_lt hz3_0; have hz3_1 : w2.heap.size + 1 < w3.heap.size := lt_below hb3 ltg; have hl3_1 := Nat.le_of_lt hz3_1; have hA3 := bnext (w0 := w) bgo hb3; have hs3 := hA3.size; clear hb3)
        | (go_at_call 17; refine (c17 _ (hT10.next bgo)).mono ?_; rintro r w5 ⟨rfl, hb5⟩; obtain ⟨hc5, hf5⟩ := bcell hb5; have hz5_0 : w3.heap.size < w5.heap.size := lt_below hb5 ltg; have hl5_0 := Nat.le_of_lt hz5_0; have hz5_1 : w4.heap.size < w5.heap.size := lt_below hb5 ltg; have hl5_1 := Nat.le_of_lt hz5_1; have hA5 := bnext (w0 := w) bgo hb5; have hs5 := hA5.size; clear hb5)
        | (go_at_call 13; refine (c13 _ (hT.go bgo) (hT10.next bgo)).mono ?_; rintro r w6 ⟨rfl, hb6⟩; obtain ⟨hc6, hf6⟩ := bcell hb6; have hz6_0 : w3.heap.size < w6.heap.size := lt_below hb6 ltg; have hl6_0 := Nat.le_of_lt hz6_0; have hz6_1 : w4.heap.size < w6.heap.size := lt_below hb6 ltg; have hl6_1 := Nat.le_of_lt hz6_1; have hA6 := bnext (w0 := w) bgo hb6; have hs6 := hA6.size; clear hb6))
      go_ret
      exact ⟨by simp, bgo⟩
    · have hlt : (j : Int) < k := by omega
      go_wp2
      go_round
      case rel => exact ⟨j + 1, by omega, by congr 1, hA9, lp, lq, p0, p1, p2, p3, p4, q0, q1, q2, q3, q4, f3, f4⟩
      case measure => simp [intOf]; omega
end
end Go.Proofs.YtpfnfaekgaipjaaGreatDoor
