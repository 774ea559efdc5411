/-
  Texts that the proof leans on, joined: Mj, Mk, Kj, Kl.
-/
import Derived.Test.YtplocajjfoiklaaGreatDoorJ39
import Derived.Test.YtplocajjfoiklaaGreatDoorJ1
import Derived.Test.YtplocajjfoiklaaGreatDoorJ29
import Derived.Test.YtplocajjfoiklaaGreatDoorJ37
import Derived.Test.YtplocajjfoiklaaGreatDoorJ10
import Derived.Test.YtplocajjfoiklaaGreatDoorJ30
import Derived.Test.YtplocajjfoiklaaGreatDoorJ33
import Derived.Deep.Cut
import Derived.Deep.CutRange
import Derived.Test.YtplocajjfoiklaaGreatDoorJ28
import Derived.Test.YtplocajjfoiklaaGreatDoorJ11
set_option linter.unusedVariables false
set_option linter.unusedSectionVars false
set_option linter.unusedSimpArgs false
set_option maxRecDepth 20000
namespace Go.Proofs.YtplocajjfoiklaaGreatDoor
open Go.RowKit

/-- what a hexadecimal text says -/
abbrev HV (s : Bool) (v : Value) (x : Int) : Value := .agg #[.bool s, v, .int .i64 x]
abbrev HZ : Value := .agg #[.bool false, .slice none 0 0, .int .i64 0]
attribute [local irreducible] Nt
section
set_option maxHeartbeats 4000000
variable (l : List UInt8) (w : World) (sg : Bool) (R : List UInt8)
  (c70 : ∀ W, Calls Tryz.prog 70 #[.string (B l)] W fun e w' => e = .returned (.tuple #[.bool sg, .string (B R)]) ∧ Below W.heap.size W w')
include c70
theorem hc_m (c71 : ∀ W, Calls Tryz.prog 71 #[.string (B R)] W fun e w' => e = .returned (.tuple #[.string (B R), .bool false]) ∧ Below W.heap.size W w') :
    Calls Tryz.prog 34 #[.string (B l)] w fun e w' => e = .returned (.tuple #[HZ, .bool false]) ∧ Below w.heap.size w w' := by
  have hsm := gcell_set_map
  generalize B l = bl0 at *
  generalize B R = bR at *
  go_enter Tryz.func34, Tryz.ntmps34
  go_wp2_with (first
    | (go_at_call 70; refine (c70 _).mono ?_; rintro r w1 ⟨rfl, hb1⟩; obtain ⟨hc1, hf1⟩ := bcell hb1; have hz1_0 : w.heap.size < w1.heap.size := lt_below hb1 ltg; have hl1_0 := Nat.le_of_lt hz1_0; have hA1 := bnext (w0 := w) bgo hb1; have hs1 := hA1.size; clear hb1)
    | (go_at_call 71; refine (c71 _).mono ?_; rintro r w2 ⟨rfl, hb2⟩; obtain ⟨hc2, hf2⟩ := bcell hb2; have hz2_0 : w.heap.size < w2.heap.size := lt_below hb2 ltg; have hl2_0 := Nat.le_of_lt hz2_0; have hA2 := bnext (w0 := w) bgo hb2; have hs2 := hA2.size; clear hb2))
  exact bodyPost_ret (v := .tuple #[HZ, .bool false]) (by simp only [results, Tryz.results34]; go_simp) rfl ⟨rfl, bgo⟩
variable (a W1 r1 : List UInt8)
  (c71 : ∀ W, Calls Tryz.prog 71 #[.string (B R)] W fun e w' => e = .returned (.tuple #[.string (B a), .bool true]) ∧ Below W.heap.size W w')
  (c72 : ∀ W, Calls Tryz.prog 72 #[.string (B a)] W fun e w' => e = .returned (.tuple #[.string (B W1), .string (B r1)]) ∧ Below W.heap.size W w')
include c71 c72
section
variable (hp : ∀ W, Calls Tryz.prog 73 #[.string (B r1), .string ⟨#[46]⟩] W fun e w' => e = .returned (.tuple #[.string (B r1), .bool false]) ∧ Below W.heap.size W w') (X : Int)
include hp
theorem hc_nf (c74 : ∀ W, Calls Tryz.prog 74 #[.string (B r1)] W fun e w' => e = .returned (.tuple #[.int .i64 X, .bool false]) ∧ Below W.heap.size W w') :
    Calls Tryz.prog 34 #[.string (B l)] w fun e w' => e = .returned (.tuple #[HZ, .bool false]) ∧ Below w.heap.size w w' := by
  have c73 := hp
  have hsm := gcell_set_map
  go_enter Tryz.func34, Tryz.ntmps34
  go_wp2_with (first
    | (go_at_call 70; refine (c70 _).mono ?_; rintro r w1 ⟨rfl, hb1⟩; obtain ⟨hc1, hf1⟩ := bcell hb1; have hz1_0 : w.heap.size < w1.heap.size := lt_below hb1 ltg; have hl1_0 := Nat.le_of_lt hz1_0; have hA1 := bnext (w0 := w) bgo hb1; have hs1 := hA1.size; clear hb1)
    | (go_at_call 71; refine (c71 _).mono ?_; rintro r w2 ⟨rfl, hb2⟩; obtain ⟨hc2, hf2⟩ := bcell hb2; have hz2_0 : w.heap.size < w2.heap.size := lt_below hb2 ltg; have hl2_0 := Nat.le_of_lt hz2_0; have hA2 := bnext (w0 := w) bgo hb2; have hs2 := hA2.size; clear hb2)
    | (go_at_call 72; refine (c72 _).mono ?_; rintro r w3 ⟨rfl, hb3⟩; obtain ⟨hc3, hf3⟩ := bcell hb3; have hz3_0 : w.heap.size < w3.heap.size := lt_below hb3 ltg; have hl3_0 := Nat.le_of_lt hz3_0; have hA3 := bnext (w0 := w) bgo hb3; have hs3 := hA3.size; clear hb3)
    | (go_at_call 73; refine (c73 _).mono ?_; rintro r w4 ⟨rfl, hb4⟩; obtain ⟨hc4, hf4⟩ := bcell hb4; have hz4_0 : w.heap.size < w4.heap.size := lt_below hb4 ltg; have hl4_0 := Nat.le_of_lt hz4_0; have hA4 := bnext (w0 := w) bgo hb4; have hs4 := hA4.size; clear hb4)
    | (go_at_call 74; refine (c74 _).mono ?_; rintro r w6 ⟨rfl, hb6⟩; obtain ⟨hc6, hf6⟩ := bcell hb6; have hz6_0 : w.heap.size < w6.heap.size := lt_below hb6 ltg; have hl6_0 := Nat.le_of_lt hz6_0; have hA6 := bnext (w0 := w) bgo hb6; have hs6 := hA6.size; clear hb6))
  exact bodyPost_ret (v := .tuple #[HZ, .bool false]) (by simp only [results, Tryz.results34]; go_simp) rfl ⟨rfl, bgo⟩
theorem hc_nz (c74 : ∀ W, Calls Tryz.prog 74 #[.string (B r1)] W fun e w' => e = .returned (.tuple #[.int .i64 X, .bool true]) ∧ Below W.heap.size W w') (hW : W1 = []) :
    Calls Tryz.prog 34 #[.string (B l)] w fun e w' => e = .returned (.tuple #[HZ, .bool false]) ∧ Below w.heap.size w w' := by
  have c73 := hp
  have hsm := gcell_set_map
  subst hW
  have e0 : B [] = ⟨#[]⟩ := rfl
  rw [e0] at c72
  go_enter Tryz.func34, Tryz.ntmps34
  go_wp2_with (first
    | (go_at_call 70; refine (c70 _).mono ?_; rintro r w1 ⟨rfl, hb1⟩; obtain ⟨hc1, hf1⟩ := bcell hb1; have hz1_0 : w.heap.size < w1.heap.size := lt_below hb1 ltg; have hl1_0 := Nat.le_of_lt hz1_0; have hA1 := bnext (w0 := w) bgo hb1; have hs1 := hA1.size; clear hb1)
    | (go_at_call 71; refine (c71 _).mono ?_; rintro r w2 ⟨rfl, hb2⟩; obtain ⟨hc2, hf2⟩ := bcell hb2; have hz2_0 : w.heap.size < w2.heap.size := lt_below hb2 ltg; have hl2_0 := Nat.le_of_lt hz2_0; have hA2 := bnext (w0 := w) bgo hb2; have hs2 := hA2.size; clear hb2)
    | (go_at_call 72; refine (c72 _).mono ?_; rintro r w3 ⟨rfl, hb3⟩; obtain ⟨hc3, hf3⟩ := bcell hb3; have hz3_0 : w.heap.size < w3.heap.size := lt_below hb3 ltg; have hl3_0 := Nat.le_of_lt hz3_0; have hA3 := bnext (w0 := w) bgo hb3; have hs3 := hA3.size; clear hb3)
    | (go_at_call 73; refine (c73 _).mono ?_; rintro r w4 ⟨rfl, hb4⟩; obtain ⟨hc4, hf4⟩ := bcell hb4; have hz4_0 : w.heap.size < w4.heap.size := lt_below hb4 ltg; have hl4_0 := Nat.le_of_lt hz4_0; have hA4 := bnext (w0 := w) bgo hb4; have hs4 := hA4.size; clear hb4)
    | (go_at_call 74; refine (c74 _).mono ?_; rintro r w6 ⟨rfl, hb6⟩; obtain ⟨hc6, hf6⟩ := bcell hb6; have hz6_0 : w.heap.size < w6.heap.size := lt_below hb6 ltg; have hl6_0 := Nat.le_of_lt hz6_0; have hA6 := bnext (w0 := w) bgo hb6; have hs6 := hA6.size; clear hb6))
  exact bodyPost_ret (v := .tuple #[HZ, .bool false]) (by simp only [results, Tryz.results34]; go_simp) rfl ⟨rfl, bgo⟩
theorem hc_nk (c74 : ∀ W, Calls Tryz.prog 74 #[.string (B r1)] W fun e w' => e = .returned (.tuple #[.int .i64 X, .bool true]) ∧ Below W.heap.size W w') (hW : W1 ≠ []) (hl1 : W1.length ≤ 4000) (hX : -2000000000 ≤ X ∧ X ≤ 2000000000) (N : Nat) (c75 : ∀ W, Calls Tryz.prog 75 #[.string (B W1)] W fun e w' => ∃ a0 k0 p0, e = .returned (.slice a0 k0 p0) ∧ Nt 300 N (.slice a0 k0 p0) w' ∧ (∀ g, g < W.heap.size → Apart a0 g) ∧ Below W.heap.size W w') :
    Calls Tryz.prog 34 #[.string (B l)] w fun e w' => ∃ a0 k0 p0, e = .returned (.tuple #[HV sg (.slice a0 k0 p0) X, .bool true]) ∧ Nt 300 N (.slice a0 k0 p0) w' ∧ Below w.heap.size w w' := by
  have c73 := hp
  have hsm := gcell_set_map
  have hemp : W1.isEmpty = false := by cases W1 with | nil => exact absurd rfl hW | cons y ys => rfl
  have htl := B_toList
  have p0 : B W1 ++ (⟨#[]⟩ : ByteArray) = B W1 := by rw [show (⟨#[]⟩ : ByteArray) = B [] from rfl, B_app, List.append_nil]
  have z1 : (B W1).size = W1.length := B_size _
  have hl1i : (W1.length : Int) ≤ 4000 := by omega
  clear hW
  go_enter Tryz.func34, Tryz.ntmps34
  go_wp2_with (first
    | (go_at_call 70; refine (c70 _).mono ?_; rintro r w1 ⟨rfl, hb1⟩; obtain ⟨hc1, hf1⟩ := bcell hb1; have hz1_0 : w.heap.size < w1.heap.size := lt_below hb1 ltg; have hl1_0 := Nat.le_of_lt hz1_0; have hA1 := bnext (w0 := w) bgo hb1; have hs1 := hA1.size; clear hb1)
    | (go_at_call 71; refine (c71 _).mono ?_; rintro r w2 ⟨rfl, hb2⟩; obtain ⟨hc2, hf2⟩ := bcell hb2; have hz2_0 : w.heap.size < w2.heap.size := lt_below hb2 ltg; have hl2_0 := Nat.le_of_lt hz2_0; have hA2 := bnext (w0 := w) bgo hb2; have hs2 := hA2.size; clear hb2)
    | (go_at_call 72; refine (c72 _).mono ?_; rintro r w3 ⟨rfl, hb3⟩; obtain ⟨hc3, hf3⟩ := bcell hb3; have hz3_0 : w.heap.size < w3.heap.size := lt_below hb3 ltg; have hl3_0 := Nat.le_of_lt hz3_0; have hA3 := bnext (w0 := w) bgo hb3; have hs3 := hA3.size; clear hb3)
    | (go_at_call 73; refine (c73 _).mono ?_; rintro r w4 ⟨rfl, hb4⟩; obtain ⟨hc4, hf4⟩ := bcell hb4; have hz4_0 : w.heap.size < w4.heap.size := lt_below hb4 ltg; have hl4_0 := Nat.le_of_lt hz4_0; have hA4 := bnext (w0 := w) bgo hb4; have hs4 := hA4.size; clear hb4)
    | (go_at_call 74; refine (c74 _).mono ?_; rintro r w6 ⟨rfl, hb6⟩; obtain ⟨hc6, hf6⟩ := bcell hb6; have hz6_0 : w.heap.size < w6.heap.size := lt_below hb6 ltg; have hl6_0 := Nat.le_of_lt hz6_0; have hA6 := bnext (w0 := w) bgo hb6; have hs6 := hA6.size; clear hb6)
    | (go_at_call 75; refine (c75 _).mono ?_; rintro r w7 ⟨a7, k7, p7, rfl, hv7, hp7, hb7⟩; have hN7 : Nt 300 N (.slice a7 k7 p7) w7 := hv7; have hP7 : Apart a7 w.heap.size := hp7 _ (by omega); clear hp7; obtain ⟨hc7, hf7⟩ := bcell hb7; have hz7_0 : w.heap.size < w7.heap.size := lt_below hb7 ltg; have hl7_0 := Nat.le_of_lt hz7_0; have hA7 := bnext (w0 := w) bgo hb7; have hs7 := hA7.size; clear hb7))
  exact bodyPost_ret (v := .tuple #[HV sg (.slice a7 k7 p7) X, .bool true]) (by simp only [results, Tryz.results34]; go_simp) rfl ⟨_, _, _, rfl, nt_upd hN7 hP7 (by (repeat (first | with_reducible exact Upd.refl _ _ | with_reducible refine Upd.set ?_ _ _))), bgo⟩
end
section
variable (r0 F1 r2 : List UInt8) (hp : ∀ W, Calls Tryz.prog 73 #[.string (B r1), .string ⟨#[46]⟩] W fun e w' => e = .returned (.tuple #[.string (B r0), .bool true]) ∧ Below W.heap.size W w') (X : Int)
  (c72' : ∀ W, Calls Tryz.prog 72 #[.string (B r0)] W fun e w' => e = .returned (.tuple #[.string (B F1), .string (B r2)]) ∧ Below W.heap.size W w')
include hp c72'
theorem hc_pf (c74 : ∀ W, Calls Tryz.prog 74 #[.string (B r2)] W fun e w' => e = .returned (.tuple #[.int .i64 X, .bool false]) ∧ Below W.heap.size W w') :
    Calls Tryz.prog 34 #[.string (B l)] w fun e w' => e = .returned (.tuple #[HZ, .bool false]) ∧ Below w.heap.size w w' := by
  have c73 := hp
  have hsm := gcell_set_map
  go_enter Tryz.func34, Tryz.ntmps34
  go_wp2_with (first
    | (go_at_call 70; refine (c70 _).mono ?_; rintro r w1 ⟨rfl, hb1⟩; obtain ⟨hc1, hf1⟩ := bcell hb1; have hz1_0 : w.heap.size < w1.heap.size := lt_below hb1 ltg; have hl1_0 := Nat.le_of_lt hz1_0; have hA1 := bnext (w0 := w) bgo hb1; have hs1 := hA1.size; clear hb1)
    | (go_at_call 71; refine (c71 _).mono ?_; rintro r w2 ⟨rfl, hb2⟩; obtain ⟨hc2, hf2⟩ := bcell hb2; have hz2_0 : w.heap.size < w2.heap.size := lt_below hb2 ltg; have hl2_0 := Nat.le_of_lt hz2_0; have hA2 := bnext (w0 := w) bgo hb2; have hs2 := hA2.size; clear hb2)
    | (have hh := hA4; go_at_call 72; refine (c72' _).mono ?_; rintro r w5 ⟨rfl, hb5⟩; obtain ⟨hc5, hf5⟩ := bcell hb5; have hz5_0 : w.heap.size < w5.heap.size := lt_below hb5 ltg; have hl5_0 := Nat.le_of_lt hz5_0; have hA5 := bnext (w0 := w) bgo hb5; have hs5 := hA5.size; clear hb5)
    | (go_at_call 72; refine (c72 _).mono ?_; rintro r w3 ⟨rfl, hb3⟩; obtain ⟨hc3, hf3⟩ := bcell hb3; have hz3_0 : w.heap.size < w3.heap.size := lt_below hb3 ltg; have hl3_0 := Nat.le_of_lt hz3_0; have hA3 := bnext (w0 := w) bgo hb3; have hs3 := hA3.size; clear hb3)
    | (go_at_call 73; refine (c73 _).mono ?_; rintro r w4 ⟨rfl, hb4⟩; obtain ⟨hc4, hf4⟩ := bcell hb4; have hz4_0 : w.heap.size < w4.heap.size := lt_below hb4 ltg; have hl4_0 := Nat.le_of_lt hz4_0; have hA4 := bnext (w0 := w) bgo hb4; have hs4 := hA4.size; clear hb4)
    | (go_at_call 74; refine (c74 _).mono ?_; rintro r w6 ⟨rfl, hb6⟩; obtain ⟨hc6, hf6⟩ := bcell hb6; have hz6_0 : w.heap.size < w6.heap.size := lt_below hb6 ltg; have hl6_0 := Nat.le_of_lt hz6_0; have hA6 := bnext (w0 := w) bgo hb6; have hs6 := hA6.size; clear hb6))
  exact bodyPost_ret (v := .tuple #[HZ, .bool false]) (by simp only [results, Tryz.results34]; go_simp) rfl ⟨rfl, bgo⟩
theorem hc_pz (c74 : ∀ W, Calls Tryz.prog 74 #[.string (B r2)] W fun e w' => e = .returned (.tuple #[.int .i64 X, .bool true]) ∧ Below W.heap.size W w') (hW : W1 = []) (hF : F1 = []) :
    Calls Tryz.prog 34 #[.string (B l)] w fun e w' => e = .returned (.tuple #[HZ, .bool false]) ∧ Below w.heap.size w w' := by
  have c73 := hp
  have hsm := gcell_set_map
  subst hW
  subst hF
  have e0 : B [] = ⟨#[]⟩ := rfl
  rw [e0] at c72
  rw [e0] at c72'
  go_enter Tryz.func34, Tryz.ntmps34
  go_wp2_with (first
    | (go_at_call 70; refine (c70 _).mono ?_; rintro r w1 ⟨rfl, hb1⟩; obtain ⟨hc1, hf1⟩ := bcell hb1; have hz1_0 : w.heap.size < w1.heap.size := lt_below hb1 ltg; have hl1_0 := Nat.le_of_lt hz1_0; have hA1 := bnext (w0 := w) bgo hb1; have hs1 := hA1.size; clear hb1)
    | (go_at_call 71; refine (c71 _).mono ?_; rintro r w2 ⟨rfl, hb2⟩; obtain ⟨hc2, hf2⟩ := bcell hb2; have hz2_0 : w.heap.size < w2.heap.size := lt_below hb2 ltg; have hl2_0 := Nat.le_of_lt hz2_0; have hA2 := bnext (w0 := w) bgo hb2; have hs2 := hA2.size; clear hb2)
    | (have hh := hA4; go_at_call 72; refine (c72' _).mono ?_; rintro r w5 ⟨rfl, hb5⟩; obtain ⟨hc5, hf5⟩ := bcell hb5; have hz5_0 : w.heap.size < w5.heap.size := lt_below hb5 ltg; have hl5_0 := Nat.le_of_lt hz5_0; have hA5 := bnext (w0 := w) bgo hb5; have hs5 := hA5.size; clear hb5)
    | (go_at_call 72; refine (c72 _).mono ?_; rintro r w3 ⟨rfl, hb3⟩; obtain ⟨hc3, hf3⟩ := bcell hb3; have hz3_0 : w.heap.size < w3.heap.size := lt_below hb3 ltg; have hl3_0 := Nat.le_of_lt hz3_0; have hA3 := bnext (w0 := w) bgo hb3; have hs3 := hA3.size; clear hb3)
    | (go_at_call 73; refine (c73 _).mono ?_; rintro r w4 ⟨rfl, hb4⟩; obtain ⟨hc4, hf4⟩ := bcell hb4; have hz4_0 : w.heap.size < w4.heap.size := lt_below hb4 ltg; have hl4_0 := Nat.le_of_lt hz4_0; have hA4 := bnext (w0 := w) bgo hb4; have hs4 := hA4.size; clear hb4)
    | (go_at_call 74; refine (c74 _).mono ?_; rintro r w6 ⟨rfl, hb6⟩; obtain ⟨hc6, hf6⟩ := bcell hb6; have hz6_0 : w.heap.size < w6.heap.size := lt_below hb6 ltg; have hl6_0 := Nat.le_of_lt hz6_0; have hA6 := bnext (w0 := w) bgo hb6; have hs6 := hA6.size; clear hb6))
  exact bodyPost_ret (v := .tuple #[HZ, .bool false]) (by simp only [results, Tryz.results34]; go_simp) rfl ⟨rfl, bgo⟩
theorem hc_pk (c74 : ∀ W, Calls Tryz.prog 74 #[.string (B r2)] W fun e w' => e = .returned (.tuple #[.int .i64 X, .bool true]) ∧ Below W.heap.size W w') (hW : W1 ≠ []) (hl1 : W1.length ≤ 4000) (hl2 : F1.length ≤ 4000) (hX : -2000000000 ≤ X ∧ X ≤ 2000000000) (N : Nat) (c75 : ∀ W, Calls Tryz.prog 75 #[.string (B (W1 ++ F1))] W fun e w' => ∃ a0 k0 p0, e = .returned (.slice a0 k0 p0) ∧ Nt 300 N (.slice a0 k0 p0) w' ∧ (∀ g, g < W.heap.size → Apart a0 g) ∧ Below W.heap.size W w') :
    Calls Tryz.prog 34 #[.string (B l)] w fun e w' => ∃ a0 k0 p0, e = .returned (.tuple #[HV sg (.slice a0 k0 p0) (X - 4 * (F1.length : Int)), .bool true]) ∧ Nt 300 N (.slice a0 k0 p0) w' ∧ Below w.heap.size w w' := by
  have c73 := hp
  have hsm := gcell_set_map
  have hemp : W1.isEmpty = false := by cases W1 with | nil => exact absurd rfl hW | cons y ys => rfl
  have htl := B_toList
  have p0 : B W1 ++ B F1 = B (W1 ++ F1) := B_app _ _
  have z1 : (B W1).size = W1.length := B_size _
  have z2 : (B F1).size = F1.length := B_size _
  have hl1i : (W1.length : Int) ≤ 4000 := by omega
  have hl2i : (F1.length : Int) ≤ 4000 := by omega
  generalize B (W1 ++ F1) = bWF at *
  clear hW
  go_enter Tryz.func34, Tryz.ntmps34
  go_wp2_with (first
    | (go_at_call 70; refine (c70 _).mono ?_; rintro r w1 ⟨rfl, hb1⟩; obtain ⟨hc1, hf1⟩ := bcell hb1; have hz1_0 : w.heap.size < w1.heap.size := lt_below hb1 ltg; have hl1_0 := Nat.le_of_lt hz1_0; have hA1 := bnext (w0 := w) bgo hb1; have hs1 := hA1.size; clear hb1)
    | (go_at_call 71; refine (c71 _).mono ?_; rintro r w2 ⟨rfl, hb2⟩; obtain ⟨hc2, hf2⟩ := bcell hb2; have hz2_0 : w.heap.size < w2.heap.size := lt_below hb2 ltg; have hl2_0 := Nat.le_of_lt hz2_0; have hA2 := bnext (w0 := w) bgo hb2; have hs2 := hA2.size; clear hb2)
    | (have hh := hA4; go_at_call 72; refine (c72' _).mono ?_; rintro r w5 ⟨rfl, hb5⟩; obtain ⟨hc5, hf5⟩ := bcell hb5; have hz5_0 : w.heap.size < w5.heap.size := lt_below hb5 ltg; have hl5_0 := Nat.le_of_lt hz5_0; have hA5 := bnext (w0 := w) bgo hb5; have hs5 := hA5.size; clear hb5)
    | (go_at_call 72; refine (c72 _).mono ?_; rintro r w3 ⟨rfl, hb3⟩; obtain ⟨hc3, hf3⟩ := bcell hb3; have hz3_0 : w.heap.size < w3.heap.size := lt_below hb3 ltg; have hl3_0 := Nat.le_of_lt hz3_0; have hA3 := bnext (w0 := w) bgo hb3; have hs3 := hA3.size; clear hb3)
    | (go_at_call 73; refine (c73 _).mono ?_; rintro r w4 ⟨rfl, hb4⟩; obtain ⟨hc4, hf4⟩ := bcell hb4; have hz4_0 : w.heap.size < w4.heap.size := lt_below hb4 ltg; have hl4_0 := Nat.le_of_lt hz4_0; have hA4 := bnext (w0 := w) bgo hb4; have hs4 := hA4.size; clear hb4)
    | (go_at_call 74; refine (c74 _).mono ?_; rintro r w6 ⟨rfl, hb6⟩; obtain ⟨hc6, hf6⟩ := bcell hb6; have hz6_0 : w.heap.size < w6.heap.size := lt_below hb6 ltg; have hl6_0 := Nat.le_of_lt hz6_0; have hA6 := bnext (w0 := w) bgo hb6; have hs6 := hA6.size; clear hb6)
    | (go_at_call 75; refine (c75 _).mono ?_; rintro r w7 ⟨a7, k7, p7, rfl, hv7, hp7, hb7⟩; have hN7 : Nt 300 N (.slice a7 k7 p7) w7 := hv7; have hP7 : Apart a7 w.heap.size := hp7 _ (by omega); clear hp7; obtain ⟨hc7, hf7⟩ := bcell hb7; have hz7_0 : w.heap.size < w7.heap.size := lt_below hb7 ltg; have hl7_0 := Nat.le_of_lt hz7_0; have hA7 := bnext (w0 := w) bgo hb7; have hs7 := hA7.size; clear hb7))
  exact bodyPost_ret (v := .tuple #[HV sg (.slice a7 k7 p7) (X - 4 * (F1.length : Int)), .bool true]) (by simp only [results, Tryz.results34]; go_simp) rfl ⟨_, _, _, rfl, nt_upd hN7 hP7 (by (repeat (first | with_reducible exact Upd.refl _ _ | with_reducible refine Upd.set ?_ _ _))), bgo⟩
theorem hc_pj (c74 : ∀ W, Calls Tryz.prog 74 #[.string (B r2)] W fun e w' => e = .returned (.tuple #[.int .i64 X, .bool true]) ∧ Below W.heap.size W w') (hW : W1 = []) (hF : F1 ≠ []) (hl2 : F1.length ≤ 4000) (hX : -2000000000 ≤ X ∧ X ≤ 2000000000) (N : Nat) (c75 : ∀ W, Calls Tryz.prog 75 #[.string (B F1)] W fun e w' => ∃ a0 k0 p0, e = .returned (.slice a0 k0 p0) ∧ Nt 300 N (.slice a0 k0 p0) w' ∧ (∀ g, g < W.heap.size → Apart a0 g) ∧ Below W.heap.size W w') :
    Calls Tryz.prog 34 #[.string (B l)] w fun e w' => ∃ a0 k0 p0, e = .returned (.tuple #[HV sg (.slice a0 k0 p0) (X - 4 * (F1.length : Int)), .bool true]) ∧ Nt 300 N (.slice a0 k0 p0) w' ∧ Below w.heap.size w w' := by
  have c73 := hp
  have hsm := gcell_set_map
  subst hW
  have e0 : B [] = ⟨#[]⟩ := rfl
  rw [e0] at c72
  have hemp : F1.isEmpty = false := by cases F1 with | nil => exact absurd rfl hF | cons y ys => rfl
  have htl := B_toList
  have p0 : (⟨#[]⟩ : ByteArray) ++ B F1 = B F1 := by rw [show (⟨#[]⟩ : ByteArray) = B [] from rfl, B_app, List.nil_append]
  have z2 : (B F1).size = F1.length := B_size _
  have hl2i : (F1.length : Int) ≤ 4000 := by omega
  clear hF
  go_enter Tryz.func34, Tryz.ntmps34
  go_wp2_with (first
    | (go_at_call 70; refine (c70 _).mono ?_; rintro r w1 ⟨rfl, hb1⟩; obtain ⟨hc1, hf1⟩ := bcell hb1; have hz1_0 : w.heap.size < w1.heap.size := lt_below hb1 ltg; have hl1_0 := Nat.le_of_lt hz1_0; have hA1 := bnext (w0 := w) bgo hb1; have hs1 := hA1.size; clear hb1)
    | (go_at_call 71; refine (c71 _).mono ?_; rintro r w2 ⟨rfl, hb2⟩; obtain ⟨hc2, hf2⟩ := bcell hb2; have hz2_0 : w.heap.size < w2.heap.size := lt_below hb2 ltg; have hl2_0 := Nat.le_of_lt hz2_0; have hA2 := bnext (w0 := w) bgo hb2; have hs2 := hA2.size; clear hb2)
    | (have hh := hA4; go_at_call 72; refine (c72' _).mono ?_; rintro r w5 ⟨rfl, hb5⟩; obtain ⟨hc5, hf5⟩ := bcell hb5; have hz5_0 : w.heap.size < w5.heap.size := lt_below hb5 ltg; have hl5_0 := Nat.le_of_lt hz5_0; have hA5 := bnext (w0 := w) bgo hb5; have hs5 := hA5.size; clear hb5)
    | (go_at_call 72; refine (c72 _).mono ?_; rintro r w3 ⟨rfl, hb3⟩; obtain ⟨hc3, hf3⟩ := bcell hb3; have hz3_0 : w.heap.size < w3.heap.size := lt_below hb3 ltg; have hl3_0 := Nat.le_of_lt hz3_0; have hA3 := bnext (w0 := w) bgo hb3; have hs3 := hA3.size; clear hb3)
    | (go_at_call 73; refine (c73 _).mono ?_; rintro r w4 ⟨rfl, hb4⟩; obtain ⟨hc4, hf4⟩ := bcell hb4; have hz4_0 : w.heap.size < w4.heap.size := lt_below hb4 ltg; have hl4_0 := Nat.le_of_lt hz4_0; have hA4 := bnext (w0 := w) bgo hb4; have hs4 := hA4.size; clear hb4)
    | (go_at_call 74; refine (c74 _).mono ?_; rintro r w6 ⟨rfl, hb6⟩; obtain ⟨hc6, hf6⟩ := bcell hb6; have hz6_0 : w.heap.size < w6.heap.size := lt_below hb6 ltg; have hl6_0 := Nat.le_of_lt hz6_0; have hA6 := bnext (w0 := w) bgo hb6; have hs6 := hA6.size; clear hb6)
    | (go_at_call 75; refine (c75 _).mono ?_; rintro r w7 ⟨a7, k7, p7, rfl, hv7, hp7, hb7⟩; have hN7 : Nt 300 N (.slice a7 k7 p7) w7 := hv7; have hP7 : Apart a7 w.heap.size := hp7 _ (by omega); clear hp7; obtain ⟨hc7, hf7⟩ := bcell hb7; have hz7_0 : w.heap.size < w7.heap.size := lt_below hb7 ltg; have hl7_0 := Nat.le_of_lt hz7_0; have hA7 := bnext (w0 := w) bgo hb7; have hs7 := hA7.size; clear hb7))
  exact bodyPost_ret (v := .tuple #[HV sg (.slice a7 k7 p7) (X - 4 * (F1.length : Int)), .bool true]) (by simp only [results, Tryz.results34]; go_simp) rfl ⟨_, _, _, rfl, nt_upd hN7 hP7 (by (repeat (first | with_reducible exact Upd.refl _ _ | with_reducible refine Upd.set ?_ _ _))), bgo⟩
end
end
end Go.Proofs.YtplocajjfoiklaaGreatDoor

namespace Go.Proofs.YtplocajjfoiklaaGreatDoor
open Go.RowKit

attribute [local irreducible] W4 Nz Nt
section
set_option maxHeartbeats 4000000
variable (n d : Int) (nm : ByteArray) (wd : Int) (f e : Nat) (l m : Int) (s : List UInt8) (w : World) (hT : Tab w)
include hT
variable (c54 : ∀ W, Tab W → Calls Tryz.prog 32 #[.int .i64 n] W fun r w' => r = .returned (.tuple #[DI n nm wd f e l m, .int .i64 0]) ∧ Below W.heap.size W w')
include c54
variable (hd : decide (knB d) = true)
include hd
variable (hl : s.length ≤ 4000)
include hl
theorem xr_h (sg : Bool) (X : Int) (N : Nat) (V : Nat) (F E : Int) (c34 : ∀ W, Calls Tryz.prog 34 #[.string (B s)] W fun e w' => ∃ a0 k0 p0, e = .returned (.tuple #[HV sg (.slice a0 k0 p0) X, .bool true]) ∧ Nt 300 N (.slice a0 k0 p0) w' ∧ Below W.heap.size W w') (c35 : ∀ W v v', Tab W → Nt 300 N v W → Nt 1 1 v' W → Calls Tryz.prog 35 #[.int .i64 n, .int .i64 d, .bool sg, v, v', .int .i64 X] W fun r w' => r = .returned (.tuple #[A4 V, .int .i64 F, .int .i64 E]) ∧ Below W.heap.size W w') :
    Calls Tryz.prog 11 #[.int .i64 n, .int .i64 d, .string (B s)] w fun r w' => r = .returned (.tuple #[A4 V, .int .i64 F, .int .i64 E]) ∧ Below w.heap.size w w' := by
  have hsm := cell_set_map
  have c55 := known_any d
  rw [hd] at c55
  have hsz : (B s).size = s.length := B_size s
  have hli : (s.length : Int) ≤ 4000 := by omega
  go_enter Tryz.func11, Tryz.ntmps11
  go_wp2_with (first
    | (go_at_call 32; refine (c54 _ (hT.go bgo)).mono ?_; rintro r w1 ⟨rfl, hb1⟩; obtain ⟨hc1, hf1⟩ := bcell hb1; have hz1_0 : w.heap.size < w1.heap.size := lt_below hb1 ltg; have hl1_0 := Nat.le_of_lt hz1_0; have hA1 := bnext (w0 := w) bgo hb1; have hs1 := hA1.size; clear hb1)
    | (go_at_call 33; refine (c55 _).mono ?_; rintro r w2 ⟨rfl, rfl⟩)
    | (go_at_call 34; refine (c34 _).mono ?_; rintro r w3 ⟨a3, k3, p3, rfl, hN3, hb3⟩; obtain ⟨hc3, hf3⟩ := bcell hb3; have hz3_0 : w.heap.size < w3.heap.size := lt_below hb3 ltg; have hl3_0 := Nat.le_of_lt hz3_0; have hA3 := bnext (w0 := w) bgo hb3; have hs3 := hA3.size; clear hb3; have hq4 : w.heap.size < w3.heap.size + 1 + 1 := Nat.lt_succ_of_lt (Nat.lt_succ_of_lt hz3_0); have hq5 : w.heap.size < w3.heap.size + 2 := hq4)
    | (go_at_call 35; refine (c35 _ _ _ (hT.go bgo) (hN3.next bgo) (nt_one (by simp) rfl (by decide))).mono ?_; rintro r w4 ⟨rfl, hb4⟩; obtain ⟨hc4, hf4⟩ := bcell hb4; have hz4_0 : w.heap.size < w4.heap.size := lt_below hb4 ltg; have hl4_0 := Nat.le_of_lt hz4_0; have hA4 := bnext (w0 := w) bgo hb4; have hs4 := hA4.size; clear hb4))
  exact bodyPost_ret (v := .tuple #[A4 V, .int .i64 F, .int .i64 E]) (by simp only [results, Tryz.results11]; go_simp) rfl ⟨rfl, bgo⟩
variable (c34 : ∀ W, Calls Tryz.prog 34 #[.string (B s)] W fun e w' => e = .returned (.tuple #[HZ, .bool false]) ∧ Below W.heap.size W w')
include c34
theorem xr_n (pc : Int) (ps pg : Bool) (pd : List UInt8) (pe E : Int) (c36 : ∀ W, Calls Tryz.prog 36 #[.string (B s)] W fun r w' => r = .returned (.tuple #[PV pc ps pg pd pe, .int .i64 E]) ∧ Below W.heap.size W w') (hE : (E != 0) = true) :
    Calls Tryz.prog 11 #[.int .i64 n, .int .i64 d, .string (B s)] w fun r w' => r = .returned (.tuple #[Z4, .int .i64 0, .int .i64 2]) ∧ Below w.heap.size w w' := by
  have hsm := cell_set_map
  have c55 := known_any d
  rw [hd] at c55
  have hsz : (B s).size = s.length := B_size s
  have hli : (s.length : Int) ≤ 4000 := by omega
  unfold PV at *
  go_enter Tryz.func11, Tryz.ntmps11
  go_wp2_with (first
    | (go_at_call 32; refine (c54 _ (hT.go bgo)).mono ?_; rintro r w1 ⟨rfl, hb1⟩; obtain ⟨hc1, hf1⟩ := bcell hb1; have hz1_0 : w.heap.size < w1.heap.size := lt_below hb1 ltg; have hl1_0 := Nat.le_of_lt hz1_0; have hA1 := bnext (w0 := w) bgo hb1; have hs1 := hA1.size; clear hb1)
    | (go_at_call 33; refine (c55 _).mono ?_; rintro r w2 ⟨rfl, rfl⟩)
    | (go_at_call 34; refine (c34 _).mono ?_; rintro r w3 ⟨rfl, hb3⟩; obtain ⟨hc3, hf3⟩ := bcell hb3; have hz3_0 : w.heap.size < w3.heap.size := lt_below hb3 ltg; have hl3_0 := Nat.le_of_lt hz3_0; have hA3 := bnext (w0 := w) bgo hb3; have hs3 := hA3.size; clear hb3)
    | (go_at_call 36; refine (c36 _).mono ?_; rintro r w5 ⟨rfl, hb5⟩; obtain ⟨hc5, hf5⟩ := bcell hb5; have hz5_0 : w.heap.size < w5.heap.size := lt_below hb5 ltg; have hl5_0 := Nat.le_of_lt hz5_0; have hA5 := bnext (w0 := w) bgo hb5; have hs5 := hA5.size; clear hb5))
  exact bodyPost_ret (v := .tuple #[Z4, .int .i64 0, .int .i64 2]) (by simp only [results, Tryz.results11]; go_simp) rfl ⟨rfl, bgo⟩
theorem xr_1 (pc : Int) (ps pg : Bool) (pd : List UInt8) (pe E : Int) (c36 : ∀ W, Calls Tryz.prog 36 #[.string (B s)] W fun r w' => r = .returned (.tuple #[PV pc ps pg pd pe, .int .i64 0]) ∧ Below W.heap.size W w') (h1 : pc = 1) :
    Calls Tryz.prog 11 #[.int .i64 n, .int .i64 d, .string (B s)] w fun r w' => r = .returned (.tuple #[Z4, .int .i64 0, .int .i64 2]) ∧ Below w.heap.size w w' := by
  have hsm := cell_set_map
  subst h1
  have c55 := known_any d
  rw [hd] at c55
  have hsz : (B s).size = s.length := B_size s
  have hli : (s.length : Int) ≤ 4000 := by omega
  unfold PV at *
  go_enter Tryz.func11, Tryz.ntmps11
  go_wp2_with (first
    | (go_at_call 32; refine (c54 _ (hT.go bgo)).mono ?_; rintro r w1 ⟨rfl, hb1⟩; obtain ⟨hc1, hf1⟩ := bcell hb1; have hz1_0 : w.heap.size < w1.heap.size := lt_below hb1 ltg; have hl1_0 := Nat.le_of_lt hz1_0; have hA1 := bnext (w0 := w) bgo hb1; have hs1 := hA1.size; clear hb1)
    | (go_at_call 33; refine (c55 _).mono ?_; rintro r w2 ⟨rfl, rfl⟩)
    | (go_at_call 34; refine (c34 _).mono ?_; rintro r w3 ⟨rfl, hb3⟩; obtain ⟨hc3, hf3⟩ := bcell hb3; have hz3_0 : w.heap.size < w3.heap.size := lt_below hb3 ltg; have hl3_0 := Nat.le_of_lt hz3_0; have hA3 := bnext (w0 := w) bgo hb3; have hs3 := hA3.size; clear hb3)
    | (go_at_call 36; refine (c36 _).mono ?_; rintro r w5 ⟨rfl, hb5⟩; obtain ⟨hc5, hf5⟩ := bcell hb5; have hz5_0 : w.heap.size < w5.heap.size := lt_below hb5 ltg; have hl5_0 := Nat.le_of_lt hz5_0; have hA5 := bnext (w0 := w) bgo hb5; have hs5 := hA5.size; clear hb5))
  exact bodyPost_ret (v := .tuple #[Z4, .int .i64 0, .int .i64 2]) (by simp only [results, Tryz.results11]; go_simp) rfl ⟨rfl, bgo⟩
theorem xr_o (pc : Int) (ps pg : Bool) (pd : List UInt8) (pe E : Int) (c36 : ∀ W, Calls Tryz.prog 36 #[.string (B s)] W fun r w' => r = .returned (.tuple #[PV pc ps pg pd pe, .int .i64 0]) ∧ Below W.heap.size W w') (h1 : (pc == 1) = false) (V : Nat) (F E' : Int) (c37 : ∀ W, Below w.heap.size w W → Calls Tryz.prog 37 #[.int .i64 n, .int .i64 d, PV pc ps pg pd pe] W fun r w' => r = .returned (.tuple #[A4 V, .int .i64 F, .int .i64 E']) ∧ Below W.heap.size W w') :
    Calls Tryz.prog 11 #[.int .i64 n, .int .i64 d, .string (B s)] w fun r w' => r = .returned (.tuple #[A4 V, .int .i64 F, .int .i64 E']) ∧ Below w.heap.size w w' := by
  have hsm := cell_set_map
  have c55 := known_any d
  rw [hd] at c55
  have hsz : (B s).size = s.length := B_size s
  have hli : (s.length : Int) ≤ 4000 := by omega
  unfold PV at *
  go_enter Tryz.func11, Tryz.ntmps11
  go_wp2_with (first
    | (go_at_call 32; refine (c54 _ (hT.go bgo)).mono ?_; rintro r w1 ⟨rfl, hb1⟩; obtain ⟨hc1, hf1⟩ := bcell hb1; have hz1_0 : w.heap.size < w1.heap.size := lt_below hb1 ltg; have hl1_0 := Nat.le_of_lt hz1_0; have hA1 := bnext (w0 := w) bgo hb1; have hs1 := hA1.size; clear hb1)
    | (go_at_call 33; refine (c55 _).mono ?_; rintro r w2 ⟨rfl, rfl⟩)
    | (go_at_call 34; refine (c34 _).mono ?_; rintro r w3 ⟨rfl, hb3⟩; obtain ⟨hc3, hf3⟩ := bcell hb3; have hz3_0 : w.heap.size < w3.heap.size := lt_below hb3 ltg; have hl3_0 := Nat.le_of_lt hz3_0; have hA3 := bnext (w0 := w) bgo hb3; have hs3 := hA3.size; clear hb3)
    | (go_at_call 36; refine (c36 _).mono ?_; rintro r w5 ⟨rfl, hb5⟩; obtain ⟨hc5, hf5⟩ := bcell hb5; have hz5_0 : w.heap.size < w5.heap.size := lt_below hb5 ltg; have hl5_0 := Nat.le_of_lt hz5_0; have hA5 := bnext (w0 := w) bgo hb5; have hs5 := hA5.size; clear hb5)
    | (go_at_call 37; refine (c37 _ bgo).mono ?_; rintro r w6 ⟨rfl, hb6⟩; obtain ⟨hc6, hf6⟩ := bcell hb6; have hz6_0 : w.heap.size < w6.heap.size := lt_below hb6 ltg; have hl6_0 := Nat.le_of_lt hz6_0; have hA6 := bnext (w0 := w) bgo hb6; have hs6 := hA6.size; clear hb6))
  exact bodyPost_ret (v := .tuple #[A4 V, .int .i64 F, .int .i64 E']) (by simp only [results, Tryz.results11]; go_simp) rfl ⟨rfl, bgo⟩
end
end Go.Proofs.YtplocajjfoiklaaGreatDoor

namespace Go.Proofs.YtplocajjfoiklaaGreatDoor
open Go.RowKit

/-- behind the point: are there digits, and what is left -/
def hpB (r : List UInt8) : Bool := decide (r.head? = some 46)
def hpF (r : List UInt8) : List UInt8 := if hpB r then r.tail.takeWhile hxB else []
def hpR (r : List UInt8) : List UInt8 := if hpB r then r.tail.dropWhile hxB else r
/-- the number, and the exponent, of what stands behind 0x -/
def hxR (a : List UInt8) : Option (Nat × Int) :=
  if (a.takeWhile hxB).length + (hpF (a.dropWhile hxB)).length = 0 then none
  else match hpR (a.dropWhile hxB) with
    | [] => none
    | y :: z => if y = 112 ∧ isd (sgR z) = true then some (hxV (a.takeWhile hxB) * 16 ^ (hpF (a.dropWhile hxB)).length + hxV (hpF (a.dropWhile hxB)), min (max (exS z) (-1000000000)) 1000000000 - 4 * ((hpF (a.dropWhile hxB)).length : Int)) else none
theorem tw_le (l : List UInt8) : (l.takeWhile hxB).length + (l.dropWhile hxB).length = l.length := by
  have := congrArg List.length (List.takeWhile_append_dropWhile (p := hxB) (l := l))
  rwa [List.length_append] at this
section
variable {n d : Int} {l : List UInt8} (w : World) (hb : binN n) (hd : knB d) (hl : l.length ≤ 4000) (a : List UInt8) (ht : sgR (sml l) = 48 :: 120 :: a)
include hb hd hl ht
end
end Go.Proofs.YtplocajjfoiklaaGreatDoor

namespace Go.Proofs.YtplocajjfoiklaaGreatDoor
open Go.RowKit

theorem hp_sml (r : List UInt8) : hpF (sml r) = sml (pxF r) ∧ hpR (sml r) = sml (pxR r) := by
  cases r with
  | nil => exact ⟨rfl, rfl⟩
  | cons y z =>
    have e0 : hpB (sml (y :: z)) = decide (y = 46) := by
      unfold hpB
      rw [sml_cons, List.head?_cons, decide_eq_decide, Option.some.injEq, sm_46]
    unfold hpF hpR pxF pxR
    rw [e0, pre46]
    by_cases h : y = 46
    · subst h
      rw [decide_eq_true rfl, if_pos rfl, if_pos rfl, if_pos rfl, if_pos rfl, trim46, sml_cons, List.tail_cons, sml_tw, sml_dw]
      exact ⟨rfl, rfl⟩
    · rw [decide_eq_false h]
      exact ⟨rfl, rfl⟩
/-- the number of what stands behind 0x, as the program cuts it -/
theorem hxR_px (a : List UInt8) : hxR (sml a) = (match hpx (pxR (a.dropWhile hxc)) with
    | none => none
    | some X => if (a.takeWhile hxc).length + (pxF (a.dropWhile hxc)).length = 0 then none else some (hxV (sml (a.takeWhile hxc ++ pxF (a.dropWhile hxc))), X - 4 * ((pxF (a.dropWhile hxc)).length : Int))) := by
  unfold hxR
  rw [sml_tw, sml_dw]
  obtain ⟨h1, h2⟩ := hp_sml (a.dropWhile hxc)
  rw [h1, h2, sml_len, sml_len]
  generalize a.takeWhile hxc = W
  generalize pxF (a.dropWhile hxc) = F
  generalize pxR (a.dropWhile hxc) = R
  rw [sml_app, hxV_app, sml_len]
  cases R with
  | nil =>
    rw [sml_nil]
    simp [hpx]
  | cons y z =>
    rw [sml_cons]
    simp only [hpx]
    have hi : isd (sgR (sml z)) = isd (sgR z) := by rw [sgR_sml, isd_sml]
    rw [hi]
    by_cases hc : (y = 112 ∨ y = 80) ∧ isd (sgR z) = true
    · rw [if_pos hc, if_pos (show sm y = 112 ∧ isd (sgR z) = true from ⟨(sm_112 y).2 hc.1, hc.2⟩), exS_sml hc.2]
      rfl
    · rw [if_neg hc, if_neg (show ¬ (sm y = 112 ∧ isd (sgR z) = true) from fun h => hc ⟨(sm_112 y).1 h.1, h.2⟩)]
      simp
end Go.Proofs.YtplocajjfoiklaaGreatDoor
