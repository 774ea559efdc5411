/-
  Texts that the proof leans on, joined: Mj, Kn.
-/
import Derived.Test.YtplocajjfoiklaaGreatDoorR26
import Derived.Test.YtplocajjfoiklaaGreatDoorR1
import Derived.Test.YtplocajjfoiklaaGreatDoorR11
set_option maxHeartbeats 8000000
set_option linter.unusedVariables false
set_option linter.unusedSectionVars false
set_option linter.unusedSimpArgs false
set_option maxRecDepth 20000
namespace Go.Proofs.YtplocajjfoiklaaGreatDoor
open Go.RowKit
section
abbrev HV (s : Bool) (v : Value) (x : Int) : Value := .agg #[.bool s, v, .int .i64 x]
abbrev HZ : Value := .agg #[.bool false, .slice none 0 0, .int .i64 0]
attribute [local irreducible] Nt
section
variable (l : List UInt8) (w : World) (sg : Bool) (R : List UInt8)
 (c70 : ∀ W, Calls Tryz.prog 70 #[.string (B l)] W fun e w' => e = .returned (.tuple #[.bool sg, .string (B R)]) ∧ Below W.heap.size W w')
include c70
theorem hc_m (c71 : ∀ W, Calls Tryz.prog 71 #[.string (B R)] W fun e w' => e = .returned (.tuple #[.string (B R), .bool false]) ∧ Below W.heap.size W w') :
  Calls Tryz.prog 34 #[.string (B l)] w fun e w' => e = .returned (.tuple #[HZ, .bool false]) ∧ Below w.heap.size w w' := by
 have hsm := gcell_set_map
 generalize B l = bl0 at *
 generalize B R = bR at *
 go_enter Tryz.func34, Tryz.ntmps34
 go_wp2_with (first
  | (go_at_call 70; refine (c70 _).mono ?_; rintro r w1 ⟨rfl, hb1⟩; obtain ⟨hc1, hf1, hz1_0, hl1_0, hA1, hs1⟩ := wz w hb1 w.heap.size; clear hb1)
  | (go_at_call 71; refine (c71 _).mono ?_; rintro r w2 ⟨rfl, hb2⟩; obtain ⟨hc2, hf2, hz2_0, hl2_0, hA2, hs2⟩ := wz w hb2 w.heap.size; clear hb2))
 exact bodyPost_ret (v := .tuple #[HZ, .bool false]) (by simp only [results, Tryz.results34]; go_simp) rfl ⟨rfl, bgo⟩
variable (a W1 r1 : List UInt8)
 (c71 : ∀ W, Calls Tryz.prog 71 #[.string (B R)] W fun e w' => e = .returned (.tuple #[.string (B a), .bool true]) ∧ Below W.heap.size W w')
 (c72 : ∀ W, Calls Tryz.prog 72 #[.string (B a)] W fun e w' => e = .returned (.tuple #[.string (B W1), .string (B r1)]) ∧ Below W.heap.size W w')
include c71 c72
section
variable (hp : ∀ W, Calls Tryz.prog 73 #[.string (B r1), .string ⟨#[46]⟩] W fun e w' => e = .returned (.tuple #[.string (B r1), .bool false]) ∧ Below W.heap.size W w') (X : Int)
include hp
theorem hc_nf (c74 : ∀ W, Calls Tryz.prog 74 #[.string (B r1)] W fun e w' => e = .returned (.tuple #[.int .i64 X, .bool false]) ∧ Below W.heap.size W w') :
  Calls Tryz.prog 34 #[.string (B l)] w fun e w' => e = .returned (.tuple #[HZ, .bool false]) ∧ Below w.heap.size w w' := by
 have c73 := hp
 have hsm := gcell_set_map
 go_enter Tryz.func34, Tryz.ntmps34
 go_wp2_with (first
  | (go_at_call 70; refine (c70 _).mono ?_; rintro r w1 ⟨rfl, hb1⟩; obtain ⟨hc1, hf1, hz1_0, hl1_0, hA1, hs1⟩ := wz w hb1 w.heap.size; clear hb1)
  | (go_at_call 71; refine (c71 _).mono ?_; rintro r w2 ⟨rfl, hb2⟩; obtain ⟨hc2, hf2, hz2_0, hl2_0, hA2, hs2⟩ := wz w hb2 w.heap.size; clear hb2)
  | (go_at_call 72; refine (c72 _).mono ?_; rintro r w3 ⟨rfl, hb3⟩; obtain ⟨hc3, hf3, hz3_0, hl3_0, hA3, hs3⟩ := wz w hb3 w.heap.size; clear hb3)
  | (go_at_call 73; refine (c73 _).mono ?_; rintro r w4 ⟨rfl, hb4⟩; obtain ⟨hc4, hf4, hz4_0, hl4_0, hA4, hs4⟩ := wz w hb4 w.heap.size; clear hb4)
  | (go_at_call 74; refine (c74 _).mono ?_; rintro r w6 ⟨rfl, hb6⟩; obtain ⟨hc6, hf6, hz6_0, hl6_0, hA6, hs6⟩ := wz w hb6 w.heap.size; clear hb6))
 exact bodyPost_ret (v := .tuple #[HZ, .bool false]) (by simp only [results, Tryz.results34]; go_simp) rfl ⟨rfl, bgo⟩
theorem hc_nz (c74 : ∀ W, Calls Tryz.prog 74 #[.string (B r1)] W fun e w' => e = .returned (.tuple #[.int .i64 X, .bool true]) ∧ Below W.heap.size W w') (hW : W1 = []) :
  Calls Tryz.prog 34 #[.string (B l)] w fun e w' => e = .returned (.tuple #[HZ, .bool false]) ∧ Below w.heap.size w w' := by
 have c73 := hp
 have hsm := gcell_set_map
 subst hW
 have e0 : B [] = ⟨#[]⟩ := rfl
 rw [e0] at c72
 go_enter Tryz.func34, Tryz.ntmps34
 go_wp2_with (first
  | (go_at_call 70; refine (c70 _).mono ?_; rintro r w1 ⟨rfl, hb1⟩; obtain ⟨hc1, hf1, hz1_0, hl1_0, hA1, hs1⟩ := wz w hb1 w.heap.size; clear hb1)
  | (go_at_call 71; refine (c71 _).mono ?_; rintro r w2 ⟨rfl, hb2⟩; obtain ⟨hc2, hf2, hz2_0, hl2_0, hA2, hs2⟩ := wz w hb2 w.heap.size; clear hb2)
  | (go_at_call 72; refine (c72 _).mono ?_; rintro r w3 ⟨rfl, hb3⟩; obtain ⟨hc3, hf3, hz3_0, hl3_0, hA3, hs3⟩ := wz w hb3 w.heap.size; clear hb3)
  | (go_at_call 73; refine (c73 _).mono ?_; rintro r w4 ⟨rfl, hb4⟩; obtain ⟨hc4, hf4, hz4_0, hl4_0, hA4, hs4⟩ := wz w hb4 w.heap.size; clear hb4)
  | (go_at_call 74; refine (c74 _).mono ?_; rintro r w6 ⟨rfl, hb6⟩; obtain ⟨hc6, hf6, hz6_0, hl6_0, hA6, hs6⟩ := wz w hb6 w.heap.size; clear hb6))
 exact bodyPost_ret (v := .tuple #[HZ, .bool false]) (by simp only [results, Tryz.results34]; go_simp) rfl ⟨rfl, bgo⟩
theorem hc_nk (c74 : ∀ W, Calls Tryz.prog 74 #[.string (B r1)] W fun e w' => e = .returned (.tuple #[.int .i64 X, .bool true]) ∧ Below W.heap.size W w') (hW : W1 ≠ []) (hl1 : W1.length ≤ 4000) (hX : -2000000000 ≤ X ∧ X ≤ 2000000000) (N : Nat) (c75 : ∀ W, Calls Tryz.prog 75 #[.string (B W1)] W fun e w' => ∃ a0 k0 p0, e = .returned (.slice a0 k0 p0) ∧ Nt 300 N (.slice a0 k0 p0) w' ∧ (∀ g, g < W.heap.size → Apart a0 g) ∧ Below W.heap.size W w') :
  Calls Tryz.prog 34 #[.string (B l)] w fun e w' => ∃ a0 k0 p0, e = .returned (.tuple #[HV sg (.slice a0 k0 p0) X, .bool true]) ∧ Nt 300 N (.slice a0 k0 p0) w' ∧ Below w.heap.size w w' := by
 have c73 := hp
 have hsm := gcell_set_map
 have hemp : W1.isEmpty = false := by cases W1 with | nil => exact absurd rfl hW | cons y ys => rfl
 have htl := B_toList
 have p0 : B W1 ++ (⟨#[]⟩ : ByteArray) = B W1 := by rw [show (⟨#[]⟩ : ByteArray) = B [] from rfl, B_app, List.append_nil]
 have z1 : (B W1).size = W1.length := B_size _
 have hl1i : (W1.length : Int) ≤ 4000 := by omega
 clear hW
 go_enter Tryz.func34, Tryz.ntmps34
 go_wp2_with (first
  | (go_at_call 70; refine (c70 _).mono ?_; rintro r w1 ⟨rfl, hb1⟩; obtain ⟨hc1, hf1, hz1_0, hl1_0, hA1, hs1⟩ := wz w hb1 w.heap.size; clear hb1)
  | (go_at_call 71; refine (c71 _).mono ?_; rintro r w2 ⟨rfl, hb2⟩; obtain ⟨hc2, hf2, hz2_0, hl2_0, hA2, hs2⟩ := wz w hb2 w.heap.size; clear hb2)
  | (go_at_call 72; refine (c72 _).mono ?_; rintro r w3 ⟨rfl, hb3⟩; obtain ⟨hc3, hf3, hz3_0, hl3_0, hA3, hs3⟩ := wz w hb3 w.heap.size; clear hb3)
  | (go_at_call 73; refine (c73 _).mono ?_; rintro r w4 ⟨rfl, hb4⟩; obtain ⟨hc4, hf4, hz4_0, hl4_0, hA4, hs4⟩ := wz w hb4 w.heap.size; clear hb4)
  | (go_at_call 74; refine (c74 _).mono ?_; rintro r w6 ⟨rfl, hb6⟩; obtain ⟨hc6, hf6, hz6_0, hl6_0, hA6, hs6⟩ := wz w hb6 w.heap.size; clear hb6)
  | (go_at_call 75; refine (c75 _).mono ?_; rintro r w7 ⟨a7, k7, p7, rfl, hv7, hp7, hb7⟩; have hN7 : Nt 300 N (.slice a7 k7 p7) w7 := hv7; have hP7 : Apart a7 w.heap.size := hp7 _ (by omega); clear hp7; obtain ⟨hc7, hf7, hz7_0, hl7_0, hA7, hs7⟩ := wz w hb7 w.heap.size; clear hb7))
 exact bodyPost_ret (v := .tuple #[HV sg (.slice a7 k7 p7) X, .bool true]) (by simp only [results, Tryz.results34]; go_simp) rfl ⟨_, _, _, rfl, nt_upd hN7 hP7 (by (repeat (first | with_reducible exact Upd.refl _ _ | with_reducible refine Upd.set ?_ _ _))), bgo⟩
end
section
variable (r0 F1 r2 : List UInt8) (hp : ∀ W, Calls Tryz.prog 73 #[.string (B r1), .string ⟨#[46]⟩] W fun e w' => e = .returned (.tuple #[.string (B r0), .bool true]) ∧ Below W.heap.size W w') (X : Int)
 (c72' : ∀ W, Calls Tryz.prog 72 #[.string (B r0)] W fun e w' => e = .returned (.tuple #[.string (B F1), .string (B r2)]) ∧ Below W.heap.size W w')
include hp c72'
theorem hc_pf (c74 : ∀ W, Calls Tryz.prog 74 #[.string (B r2)] W fun e w' => e = .returned (.tuple #[.int .i64 X, .bool false]) ∧ Below W.heap.size W w') :
  Calls Tryz.prog 34 #[.string (B l)] w fun e w' => e = .returned (.tuple #[HZ, .bool false]) ∧ Below w.heap.size w w' := by
 have c73 := hp
 have hsm := gcell_set_map
 go_enter Tryz.func34, Tryz.ntmps34
 go_wp2_with (first
  | (go_at_call 70; refine (c70 _).mono ?_; rintro r w1 ⟨rfl, hb1⟩; obtain ⟨hc1, hf1, hz1_0, hl1_0, hA1, hs1⟩ := wz w hb1 w.heap.size; clear hb1)
  | (go_at_call 71; refine (c71 _).mono ?_; rintro r w2 ⟨rfl, hb2⟩; obtain ⟨hc2, hf2, hz2_0, hl2_0, hA2, hs2⟩ := wz w hb2 w.heap.size; clear hb2)
  | (have hh := hA4; go_at_call 72; refine (c72' _).mono ?_; rintro r w5 ⟨rfl, hb5⟩; obtain ⟨hc5, hf5, hz5_0, hl5_0, hA5, hs5⟩ := wz w hb5 w.heap.size; clear hb5)
  | (go_at_call 72; refine (c72 _).mono ?_; rintro r w3 ⟨rfl, hb3⟩; obtain ⟨hc3, hf3, hz3_0, hl3_0, hA3, hs3⟩ := wz w hb3 w.heap.size; clear hb3)
  | (go_at_call 73; refine (c73 _).mono ?_; rintro r w4 ⟨rfl, hb4⟩; obtain ⟨hc4, hf4, hz4_0, hl4_0, hA4, hs4⟩ := wz w hb4 w.heap.size; clear hb4)
  | (go_at_call 74; refine (c74 _).mono ?_; rintro r w6 ⟨rfl, hb6⟩; obtain ⟨hc6, hf6, hz6_0, hl6_0, hA6, hs6⟩ := wz w hb6 w.heap.size; clear hb6))
 exact bodyPost_ret (v := .tuple #[HZ, .bool false]) (by simp only [results, Tryz.results34]; go_simp) rfl ⟨rfl, bgo⟩
theorem hc_pz (c74 : ∀ W, Calls Tryz.prog 74 #[.string (B r2)] W fun e w' => e = .returned (.tuple #[.int .i64 X, .bool true]) ∧ Below W.heap.size W w') (hW : W1 = []) (hF : F1 = []) :
  Calls Tryz.prog 34 #[.string (B l)] w fun e w' => e = .returned (.tuple #[HZ, .bool false]) ∧ Below w.heap.size w w' := by
 have c73 := hp
 have hsm := gcell_set_map
 subst hW
 subst hF
 have e0 : B [] = ⟨#[]⟩ := rfl
 rw [e0] at c72
 rw [e0] at c72'
 go_enter Tryz.func34, Tryz.ntmps34
 go_wp2_with (first
  | (go_at_call 70; refine (c70 _).mono ?_; rintro r w1 ⟨rfl, hb1⟩; obtain ⟨hc1, hf1, hz1_0, hl1_0, hA1, hs1⟩ := wz w hb1 w.heap.size; clear hb1)
  | (go_at_call 71; refine (c71 _).mono ?_; rintro r w2 ⟨rfl, hb2⟩; obtain ⟨hc2, hf2, hz2_0, hl2_0, hA2, hs2⟩ := wz w hb2 w.heap.size; clear hb2)
  | (have hh := hA4; go_at_call 72; refine (c72' _).mono ?_; rintro r w5 ⟨rfl, hb5⟩; obtain ⟨hc5, hf5, hz5_0, hl5_0, hA5, hs5⟩ := wz w hb5 w.heap.size; clear hb5)
  | (go_at_call 72; refine (c72 _).mono ?_; rintro r w3 ⟨rfl, hb3⟩; obtain ⟨hc3, hf3, hz3_0, hl3_0, hA3, hs3⟩ := wz w hb3 w.heap.size; clear hb3)
  | (go_at_call 73; refine (c73 _).mono ?_; rintro r w4 ⟨rfl, hb4⟩; obtain ⟨hc4, hf4, hz4_0, hl4_0, hA4, hs4⟩ := wz w hb4 w.heap.size; clear hb4)
  | (go_at_call 74; refine (c74 _).mono ?_; rintro r w6 ⟨rfl, hb6⟩; obtain ⟨hc6, hf6, hz6_0, hl6_0, hA6, hs6⟩ := wz w hb6 w.heap.size; clear hb6))
 exact bodyPost_ret (v := .tuple #[HZ, .bool false]) (by simp only [results, Tryz.results34]; go_simp) rfl ⟨rfl, bgo⟩
theorem hc_pk (c74 : ∀ W, Calls Tryz.prog 74 #[.string (B r2)] W fun e w' => e = .returned (.tuple #[.int .i64 X, .bool true]) ∧ Below W.heap.size W w') (hW : W1 ≠ []) (hl1 : W1.length ≤ 4000) (hl2 : F1.length ≤ 4000) (hX : -2000000000 ≤ X ∧ X ≤ 2000000000) (N : Nat) (c75 : ∀ W, Calls Tryz.prog 75 #[.string (B (W1 ++ F1))] W fun e w' => ∃ a0 k0 p0, e = .returned (.slice a0 k0 p0) ∧ Nt 300 N (.slice a0 k0 p0) w' ∧ (∀ g, g < W.heap.size → Apart a0 g) ∧ Below W.heap.size W w') :
  Calls Tryz.prog 34 #[.string (B l)] w fun e w' => ∃ a0 k0 p0, e = .returned (.tuple #[HV sg (.slice a0 k0 p0) (X - 4 * (F1.length : Int)), .bool true]) ∧ Nt 300 N (.slice a0 k0 p0) w' ∧ Below w.heap.size w w' := by
 have c73 := hp
 have hsm := gcell_set_map
 have hemp : W1.isEmpty = false := by cases W1 with | nil => exact absurd rfl hW | cons y ys => rfl
 have htl := B_toList
 have p0 : B W1 ++ B F1 = B (W1 ++ F1) := B_app _ _
 have z1 : (B W1).size = W1.length := B_size _
 have z2 : (B F1).size = F1.length := B_size _
 have hl1i : (W1.length : Int) ≤ 4000 := by omega
 have hl2i : (F1.length : Int) ≤ 4000 := by omega
 generalize B (W1 ++ F1) = bWF at *
 clear hW
 go_enter Tryz.func34, Tryz.ntmps34
 go_wp2_with (first
  | (go_at_call 70; refine (c70 _).mono ?_; rintro r w1 ⟨rfl, hb1⟩; obtain ⟨hc1, hf1, hz1_0, hl1_0, hA1, hs1⟩ := wz w hb1 w.heap.size; clear hb1)
  | (go_at_call 71; refine (c71 _).mono ?_; rintro r w2 ⟨rfl, hb2⟩; obtain ⟨hc2, hf2, hz2_0, hl2_0, hA2, hs2⟩ := wz w hb2 w.heap.size; clear hb2)
  | (have hh := hA4; go_at_call 72; refine (c72' _).mono ?_; rintro r w5 ⟨rfl, hb5⟩; obtain ⟨hc5, hf5, hz5_0, hl5_0, hA5, hs5⟩ := wz w hb5 w.heap.size; clear hb5)
  | (go_at_call 72; refine (c72 _).mono ?_; rintro r w3 ⟨rfl, hb3⟩; obtain ⟨hc3, hf3, hz3_0, hl3_0, hA3, hs3⟩ := wz w hb3 w.heap.size; clear hb3)
  | (go_at_call 73; refine (c73 _).mono ?_; rintro r w4 ⟨rfl, hb4⟩; obtain ⟨hc4, hf4, hz4_0, hl4_0, hA4, hs4⟩ := wz w hb4 w.heap.size; clear hb4)
  | (go_at_call 74; refine (c74 _).mono ?_; rintro r w6 ⟨rfl, hb6⟩; obtain ⟨hc6, hf6, hz6_0, hl6_0, hA6, hs6⟩ := wz w hb6 w.heap.size; clear hb6)
  | (go_at_call 75; refine (c75 _).mono ?_; rintro r w7 ⟨a7, k7, p7, rfl, hv7, hp7, hb7⟩; have hN7 : Nt 300 N (.slice a7 k7 p7) w7 := hv7; have hP7 : Apart a7 w.heap.size := hp7 _ (by omega); clear hp7; obtain ⟨hc7, hf7, hz7_0, hl7_0, hA7, hs7⟩ := wz w hb7 w.heap.size; clear hb7))
 exact bodyPost_ret (v := .tuple #[HV sg (.slice a7 k7 p7) (X - 4 * (F1.length : Int)), .bool true]) (by simp only [results, Tryz.results34]; go_simp) rfl ⟨_, _, _, rfl, nt_upd hN7 hP7 (by (repeat (first | with_reducible exact Upd.refl _ _ | with_reducible refine Upd.set ?_ _ _))), bgo⟩
theorem hc_pj (c74 : ∀ W, Calls Tryz.prog 74 #[.string (B r2)] W fun e w' => e = .returned (.tuple #[.int .i64 X, .bool true]) ∧ Below W.heap.size W w') (hW : W1 = []) (hF : F1 ≠ []) (hl2 : F1.length ≤ 4000) (hX : -2000000000 ≤ X ∧ X ≤ 2000000000) (N : Nat) (c75 : ∀ W, Calls Tryz.prog 75 #[.string (B F1)] W fun e w' => ∃ a0 k0 p0, e = .returned (.slice a0 k0 p0) ∧ Nt 300 N (.slice a0 k0 p0) w' ∧ (∀ g, g < W.heap.size → Apart a0 g) ∧ Below W.heap.size W w') :
  Calls Tryz.prog 34 #[.string (B l)] w fun e w' => ∃ a0 k0 p0, e = .returned (.tuple #[HV sg (.slice a0 k0 p0) (X - 4 * (F1.length : Int)), .bool true]) ∧ Nt 300 N (.slice a0 k0 p0) w' ∧ Below w.heap.size w w' := by
 have c73 := hp
 have hsm := gcell_set_map
 subst hW
 have e0 : B [] = ⟨#[]⟩ := rfl
 rw [e0] at c72
 have hemp : F1.isEmpty = false := by cases F1 with | nil => exact absurd rfl hF | cons y ys => rfl
 have htl := B_toList
 have p0 : (⟨#[]⟩ : ByteArray) ++ B F1 = B F1 := by rw [show (⟨#[]⟩ : ByteArray) = B [] from rfl, B_app, List.nil_append]
 have z2 : (B F1).size = F1.length := B_size _
 have hl2i : (F1.length : Int) ≤ 4000 := by omega
 clear hF
 go_enter Tryz.func34, Tryz.ntmps34
 go_wp2_with (first
  | (go_at_call 70; refine (c70 _).mono ?_; rintro r w1 ⟨rfl, hb1⟩; obtain ⟨hc1, hf1, hz1_0, hl1_0, hA1, hs1⟩ := wz w hb1 w.heap.size; clear hb1)
  | (go_at_call 71; refine (c71 _).mono ?_; rintro r w2 ⟨rfl, hb2⟩; obtain ⟨hc2, hf2, hz2_0, hl2_0, hA2, hs2⟩ := wz w hb2 w.heap.size; clear hb2)
  | (have hh := hA4; go_at_call 72; refine (c72' _).mono ?_; rintro r w5 ⟨rfl, hb5⟩; obtain ⟨hc5, hf5, hz5_0, hl5_0, hA5, hs5⟩ := wz w hb5 w.heap.size; clear hb5)
  | (go_at_call 72; refine (c72 _).mono ?_; rintro r w3 ⟨rfl, hb3⟩; obtain ⟨hc3, hf3, hz3_0, hl3_0, hA3, hs3⟩ := wz w hb3 w.heap.size; clear hb3)
  | (go_at_call 73; refine (c73 _).mono ?_; rintro r w4 ⟨rfl, hb4⟩; obtain ⟨hc4, hf4, hz4_0, hl4_0, hA4, hs4⟩ := wz w hb4 w.heap.size; clear hb4)
  | (go_at_call 74; refine (c74 _).mono ?_; rintro r w6 ⟨rfl, hb6⟩; obtain ⟨hc6, hf6, hz6_0, hl6_0, hA6, hs6⟩ := wz w hb6 w.heap.size; clear hb6)
  | (go_at_call 75; refine (c75 _).mono ?_; rintro r w7 ⟨a7, k7, p7, rfl, hv7, hp7, hb7⟩; have hN7 : Nt 300 N (.slice a7 k7 p7) w7 := hv7; have hP7 : Apart a7 w.heap.size := hp7 _ (by omega); clear hp7; obtain ⟨hc7, hf7, hz7_0, hl7_0, hA7, hs7⟩ := wz w hb7 w.heap.size; clear hb7))
 exact bodyPost_ret (v := .tuple #[HV sg (.slice a7 k7 p7) (X - 4 * (F1.length : Int)), .bool true]) (by simp only [results, Tryz.results34]; go_simp) rfl ⟨_, _, _, rfl, nt_upd hN7 hP7 (by (repeat (first | with_reducible exact Upd.refl _ _ | with_reducible refine Upd.set ?_ _ _))), bgo⟩
end
end
end
section
def knB (d : Int) : Prop := 0 ≤ d ∧ d ≤ 4
instance (d : Int) : Decidable (knB d) := inferInstanceAs (Decidable (_ ∧ _))
theorem known_any (d : Int) (w : World) : Calls Tryz.prog 33 #[.int .i64 d] w fun e w' => e = .returned (.bool (decide (knB d))) ∧ w = w' := by
 by_cases h1 : 0 ≤ d
 ·by_cases h2 : d ≤ 4
  ·rw [decide_eq_true (show knB d from ⟨h1, h2⟩)]
   go_enter Tryz.func33, Tryz.ntmps33
   go_wp2
   go_ret
   exact ⟨rfl, rfl⟩
  ·rw [decide_eq_false (show ¬ knB d from fun h => h2 h.2)]
   go_enter Tryz.func33, Tryz.ntmps33
   go_wp2
   go_ret
   exact ⟨rfl, rfl⟩
 ·rw [decide_eq_false (show ¬ knB d from fun h => h1 h.1)]
  go_enter Tryz.func33, Tryz.ntmps33
  go_wp2
  go_ret
  exact ⟨rfl, rfl⟩
def inB (d : Int) (s : Bool) : Bool := if d = 0 ∨ d = 1 then true else if d = 3 then !s else if d = 4 then s else false
theorem infinite_any (d : Int) (s : Bool) (w : World) : Calls Tryz.prog 137 #[.int .i64 d, .bool s] w fun e w' => e = .returned (.bool (inB d s)) ∧ w = w' := by
 by_cases h0 : d = 0
 ·subst h0
  go_enter Tryz.func137, Tryz.ntmps137
  go_wp2
  go_ret
  exact ⟨rfl, rfl⟩
 ·by_cases h1 : d = 1
  ·subst h1
   go_enter Tryz.func137, Tryz.ntmps137
   go_wp2
   go_ret
   exact ⟨rfl, rfl⟩
  ·by_cases h3 : d = 3
   ·subst h3
    go_enter Tryz.func137, Tryz.ntmps137
    go_wp2
    go_ret
    exact ⟨rfl, rfl⟩
   ·by_cases h4 : d = 4
    ·subst h4
     go_enter Tryz.func137, Tryz.ntmps137
     go_wp2
     go_ret
     exact ⟨rfl, rfl⟩
    ·have e : inB d s = false := by unfold inB; simp [h0, h1, h3, h4]
     have b0 : (d == 0) = false := by simpa using h0
     have b1 : (d == 1) = false := by simpa using h1
     have b3 : (d == 3) = false := by simpa using h3
     have b4 : (d == 4) = false := by simpa using h4
     rw [e]
     go_enter Tryz.func137, Tryz.ntmps137
     go_wp2
     go_ret
     exact ⟨rfl, rfl⟩
def faB (d : Int) (s odd : Bool) (R D : Nat) : Bool := if R = 0 then false else if d = 0 then decide (D < R + R) || (decide (R + R = D) && odd) else if d = 1 then decide (D ≤ R + R) else inB d s
theorem sgn_ways (a b : Int) : (a < b ∧ sgn a b = -1) ∨ (a = b ∧ sgn a b = 0) ∨ (b < a ∧ sgn a b = 1) := by
 unfold sgn
 by_cases h : a < b
 ·exact Or.inl ⟨h, if_pos h⟩
 ·by_cases h' : b < a
  ·exact Or.inr (Or.inr ⟨h', by rw [if_neg h, if_pos h']⟩)
  ·exact Or.inr (Or.inl ⟨by omega, by rw [if_neg h, if_neg h']⟩)
section
variable (d : Int) (s odd : Bool) (R D : Nat) (vr vd : Value) (w : World)
 (c26 : ∀ W, Below w.heap.size w W → Calls Tryz.prog 77 #[vr] W fun e w' => e = .returned (.int .i64 (bl R : Int)) ∧ W = w')
include c26
theorem far_zero (h : R = 0) : Calls Tryz.prog 133 #[.int .i64 d, .bool s, .bool odd, vr, vd] w fun e w' => e = .returned (.bool false) ∧ Below w.heap.size w w' := by
 have hb : (((bl R : Nat) : Int) == 0) = true := by rw [h]; decide
 go_enter Tryz.func133, Tryz.ntmps133
 go_wp2_with (go_at_call 77; refine (c26 _ bgo).mono ?_; rintro e w1 ⟨rfl, rfl⟩)
 go_ret
 exact ⟨rfl, bgo⟩
variable (hv : Int) (hR : (((bl R : Nat) : Int) == 0) = false)
 (c61 : ∀ W, Below w.heap.size w W → Calls Tryz.prog 134 #[vr, vr] W fun e w' => ∃ r, e = .returned r ∧ (∀ W', Below w'.heap.size w' W' → Calls Tryz.prog 131 #[r, vd] W' fun e w'' => e = .returned (.int .i64 hv) ∧ Below W'.heap.size W' w'') ∧ Below W.heap.size W w')
include hR c61
theorem far_0g (h : 0 < hv) : Calls Tryz.prog 133 #[.int .i64 0, .bool s, .bool odd, vr, vd] w fun e w' => e = .returned (.bool true) ∧ Below w.heap.size w w' := by
 go_enter Tryz.func133, Tryz.ntmps133
 go_wp2_with (first
  | (go_at_call 77; refine (c26 _ bgo).mono ?_; rintro e w1 ⟨rfl, rfl⟩)
  | (go_at_call 134; refine (c61 _ bgo).mono ?_; rintro e w2 ⟨v2, rfl, c58, hb2⟩; have hA2 := bnx (w0 := w) bgo hb2)
  | (go_at_call 131; refine (c58 _ (Below.refl _ _)).mono ?_; rintro e w3 ⟨rfl, hb3⟩; have hA3 := bnx (w0 := w) hA2 hb3)
  | (go_at_call 137; refine (infinite_any _ _ _).mono ?_; rintro e w4 ⟨rfl, rfl⟩))
 go_ret
 exact ⟨by first | rfl | (simp; omega), bgo⟩
theorem far_0e (h : hv = 0) : Calls Tryz.prog 133 #[.int .i64 0, .bool s, .bool odd, vr, vd] w fun e w' => e = .returned (.bool odd) ∧ Below w.heap.size w w' := by
 subst h
 go_enter Tryz.func133, Tryz.ntmps133
 go_wp2_with (first
  | (go_at_call 77; refine (c26 _ bgo).mono ?_; rintro e w1 ⟨rfl, rfl⟩)
  | (go_at_call 134; refine (c61 _ bgo).mono ?_; rintro e w2 ⟨v2, rfl, c58, hb2⟩; have hA2 := bnx (w0 := w) bgo hb2)
  | (go_at_call 131; refine (c58 _ (Below.refl _ _)).mono ?_; rintro e w3 ⟨rfl, hb3⟩; have hA3 := bnx (w0 := w) hA2 hb3)
  | (go_at_call 137; refine (infinite_any _ _ _).mono ?_; rintro e w4 ⟨rfl, rfl⟩))
 go_ret
 exact ⟨by first | rfl | (simp; omega), bgo⟩
theorem far_0l (h : ¬ 0 < hv) (h1 : (hv == 0) = false) : Calls Tryz.prog 133 #[.int .i64 0, .bool s, .bool odd, vr, vd] w fun e w' => e = .returned (.bool false) ∧ Below w.heap.size w w' := by
 go_enter Tryz.func133, Tryz.ntmps133
 go_wp2_with (first
  | (go_at_call 77; refine (c26 _ bgo).mono ?_; rintro e w1 ⟨rfl, rfl⟩)
  | (go_at_call 134; refine (c61 _ bgo).mono ?_; rintro e w2 ⟨v2, rfl, c58, hb2⟩; have hA2 := bnx (w0 := w) bgo hb2)
  | (go_at_call 131; refine (c58 _ (Below.refl _ _)).mono ?_; rintro e w3 ⟨rfl, hb3⟩; have hA3 := bnx (w0 := w) hA2 hb3)
  | (go_at_call 137; refine (infinite_any _ _ _).mono ?_; rintro e w4 ⟨rfl, rfl⟩))
 go_ret
 exact ⟨by first | rfl | (simp; omega), bgo⟩
theorem far_1g (h : 0 ≤ hv) : Calls Tryz.prog 133 #[.int .i64 1, .bool s, .bool odd, vr, vd] w fun e w' => e = .returned (.bool true) ∧ Below w.heap.size w w' := by
 go_enter Tryz.func133, Tryz.ntmps133
 go_wp2_with (first
  | (go_at_call 77; refine (c26 _ bgo).mono ?_; rintro e w1 ⟨rfl, rfl⟩)
  | (go_at_call 134; refine (c61 _ bgo).mono ?_; rintro e w2 ⟨v2, rfl, c58, hb2⟩; have hA2 := bnx (w0 := w) bgo hb2)
  | (go_at_call 131; refine (c58 _ (Below.refl _ _)).mono ?_; rintro e w3 ⟨rfl, hb3⟩; have hA3 := bnx (w0 := w) hA2 hb3)
  | (go_at_call 137; refine (infinite_any _ _ _).mono ?_; rintro e w4 ⟨rfl, rfl⟩))
 go_ret
 exact ⟨by first | rfl | (simp; omega), bgo⟩
theorem far_1l (h : ¬ 0 ≤ hv) : Calls Tryz.prog 133 #[.int .i64 1, .bool s, .bool odd, vr, vd] w fun e w' => e = .returned (.bool false) ∧ Below w.heap.size w w' := by
 go_enter Tryz.func133, Tryz.ntmps133
 go_wp2_with (first
  | (go_at_call 77; refine (c26 _ bgo).mono ?_; rintro e w1 ⟨rfl, rfl⟩)
  | (go_at_call 134; refine (c61 _ bgo).mono ?_; rintro e w2 ⟨v2, rfl, c58, hb2⟩; have hA2 := bnx (w0 := w) bgo hb2)
  | (go_at_call 131; refine (c58 _ (Below.refl _ _)).mono ?_; rintro e w3 ⟨rfl, hb3⟩; have hA3 := bnx (w0 := w) hA2 hb3)
  | (go_at_call 137; refine (infinite_any _ _ _).mono ?_; rintro e w4 ⟨rfl, rfl⟩))
 go_ret
 exact ⟨by first | rfl | (simp; omega), bgo⟩
theorem far_d (h0 : (d == 0) = false) (h1 : (d == 1) = false) : Calls Tryz.prog 133 #[.int .i64 d, .bool s, .bool odd, vr, vd] w fun e w' => e = .returned (.bool (inB d s)) ∧ Below w.heap.size w w' := by
 go_enter Tryz.func133, Tryz.ntmps133
 go_wp2_with (first
  | (go_at_call 77; refine (c26 _ bgo).mono ?_; rintro e w1 ⟨rfl, rfl⟩)
  | (go_at_call 134; refine (c61 _ bgo).mono ?_; rintro e w2 ⟨v2, rfl, c58, hb2⟩; have hA2 := bnx (w0 := w) bgo hb2)
  | (go_at_call 131; refine (c58 _ (Below.refl _ _)).mono ?_; rintro e w3 ⟨rfl, hb3⟩; have hA3 := bnx (w0 := w) hA2 hb3)
  | (go_at_call 137; refine (infinite_any _ _ _).mono ?_; rintro e w4 ⟨rfl, rfl⟩))
 go_ret
 exact ⟨by first | rfl | (simp; omega), bgo⟩
end
theorem farther_v (d : Int) (s odd : Bool) {K K' R D : Nat} {vr vd : Value} {w : World} (hK : K < 1000000) (hK' : K' < 1000000) (h : Nt K R vr w) (h' : Nt K' D vd w) :
  Calls Tryz.prog 133 #[.int .i64 d, .bool s, .bool odd, vr, vd] w fun e w' => e = .returned (.bool (faB d s odd R D)) ∧ Below w.heap.size w w' := by
 have c26 := fun W (hb : Below w.heap.size w W) => nlen_v (by omega) (h.next hb)
 unfold faB
 by_cases hz : R = 0
 ·rw [if_pos hz]; exact far_zero d s odd R vr vd w c26 hz
 ·rw [if_neg hz]
  have hR : (((bl R : Nat) : Int) == 0) = false := by
   have : bl R ≠ 0 := fun e => hz (bl_zero.1 e)
   rw [beq_eq_false_iff_ne]; omega
  have c61 : ∀ W, Below w.heap.size w W → Calls Tryz.prog 134 #[vr, vr] W fun e w' => ∃ r, e = .returned r ∧ (∀ W', Below w'.heap.size w' W' → Calls Tryz.prog 131 #[r, vd] W' fun e w'' => e = .returned (.int .i64 (sgn ((R + R : Nat) : Int) (D : Int))) ∧ Below W'.heap.size W' w'') ∧ Below W.heap.size W w' := fun W hb =>
   (nadd_v (by omega) (by omega) (h.next hb) (h.next hb)).mono fun e w' ⟨r, h1, h2, h3⟩ => ⟨r, h1, fun W' hb' => ncmp_v (by omega) (by omega) (h2.nt.next hb') (h'.next (bnx (bnx hb h3) hb')), h3⟩
  by_cases h0 : d = 0
  ·subst h0
   rw [if_pos rfl]
   rcases sgn_ways ((R + R : Nat) : Int) (D : Int) with ⟨a, e⟩ | ⟨a, e⟩ | ⟨a, e⟩
   ·rw [e] at c61
    rw [decide_eq_false (show ¬ D < R + R by omega), decide_eq_false (show ¬ R + R = D by omega)]
    exact far_0l s odd R vr vd w c26 (-1) hR c61 (by decide) (by decide)
   ·rw [e] at c61
    rw [decide_eq_false (show ¬ D < R + R by omega), decide_eq_true (show R + R = D by omega), Bool.false_or, Bool.true_and]
    exact far_0e s odd R vr vd w c26 0 hR c61 rfl
   ·rw [e] at c61
    rw [decide_eq_true (show D < R + R by omega), Bool.true_or]
    exact far_0g s odd R vr vd w c26 1 hR c61 (by decide)
  ·rw [if_neg h0]
   by_cases h1 : d = 1
   ·subst h1
    rw [if_pos rfl]
    rcases sgn_ways ((R + R : Nat) : Int) (D : Int) with ⟨a, e⟩ | ⟨a, e⟩ | ⟨a, e⟩
    ·rw [e] at c61
     rw [decide_eq_false (show ¬ D ≤ R + R by omega)]
     exact far_1l s odd R vr vd w c26 (-1) hR c61 (by decide)
    ·rw [e] at c61
     rw [decide_eq_true (show D ≤ R + R by omega)]
     exact far_1g s odd R vr vd w c26 0 hR c61 (by decide)
    ·rw [e] at c61
     rw [decide_eq_true (show D ≤ R + R by omega)]
     exact far_1g s odd R vr vd w c26 1 hR c61 (by decide)
   ·rw [if_neg h1]
    exact far_d d s odd R vr vd w c26 _ hR c61 (by simpa using h0) (by simpa using h1)
theorem raised_any (x s : Bool) (w : World) : Calls Tryz.prog 84 #[.bool x, .bool s] w fun e w' => e = .returned (.int .i64 (if x then 0 else if s then 12 else 8)) ∧ w = w' := by
 cases x <;> cases s
 all_goals (
  go_enter Tryz.func84, Tryz.ntmps84
  go_wp2
  go_ret
  exact ⟨rfl, rfl⟩)
end
end Go.Proofs.YtplocajjfoiklaaGreatDoor
