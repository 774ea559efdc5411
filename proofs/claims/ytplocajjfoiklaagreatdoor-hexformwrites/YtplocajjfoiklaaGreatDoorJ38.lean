/-
  Texts that the proof leans on, joined: Kf.
-/
import Derived.Test.YtplocajjfoiklaaGreatDoorJ37
import Derived.Test.YtplocajjfoiklaaGreatDoorJ10
import Derived.Test.YtplocajjfoiklaaGreatDoorJ26
import Derived.Test.YtplocajjfoiklaaGreatDoorJ36
import Derived.Test.YtplocajjfoiklaaGreatDoorJ30
import Derived.Test.YtplocajjfoiklaaGreatDoorJ1
set_option linter.unusedVariables false
set_option linter.unusedSectionVars false
set_option linter.unusedSimpArgs false
set_option maxRecDepth 20000
namespace Go.Proofs.YtplocajjfoiklaaGreatDoor
open Go.RowKit

theorem hx_const : ∀ y, y < 16 → ∀ h, (((⟨#[48, 49, 50, 51, 52, 53, 54, 55, 56, 57, 97, 98, 99, 100, 101, 102]⟩ : ByteArray)[y]'h).toNat : Int) = ((hxd y).toNat : Nat) := by
  intro y hy h
  have hor : y = 0 ∨ y = 1 ∨ y = 2 ∨ y = 3 ∨ y = 4 ∨ y = 5 ∨ y = 6 ∨ y = 7 ∨ y = 8 ∨ y = 9 ∨ y = 10 ∨ y = 11 ∨ y = 12 ∨ y = 13 ∨ y = 14 ∨ y = 15 := by omega
  rcases hor with rfl | rfl | rfl | rfl | rfl | rfl | rfl | rfl | rfl | rfl | rfl | rfl | rfl | rfl | rfl | rfl <;> rfl
theorem hx_conv (y : Nat) (hy : y < 16) (W : World) : (convert 5 9 (.int .u8 (((hxd y).toNat : Nat) : Int))).run Tryz.prog W = .ok (.string (B [hxd y])) W := by
  have hor : y = 0 ∨ y = 1 ∨ y = 2 ∨ y = 3 ∨ y = 4 ∨ y = 5 ∨ y = 6 ∨ y = 7 ∨ y = 8 ∨ y = 9 ∨ y = 10 ∨ y = 11 ∨ y = 12 ∨ y = 13 ∨ y = 14 ∨ y = 15 := by omega
  rcases hor with rfl | rfl | rfl | rfl | rfl | rfl | rfl | rfl | rfl | rfl | rfl | rfl | rfl | rfl | rfl | rfl <;> (simp [go_sem, hxd]; rfl)
attribute [local irreducible] W4 NT NV
section
variable (n : Int) (V : Nat) (c : Int) (s g : Bool) (x : Int) (k : Nat) (w : World)
set_option maxHeartbeats 2000000 in
theorem hw_e (E : Int) (hE : (E != 0) = true) (c14 : ∀ W, Calls Tryz.prog 24 #[.int .i64 n, A4 V] W fun r w' => r = .returned (.tuple #[DV c s g x k, .int .i64 E]) ∧ Below W.heap.size W w') :
    Calls Tryz.prog 10 #[.int .i64 n, A4 V] w fun r w' => r = .returned (.tuple #[.string (B []), .int .i64 E]) ∧ Below w.heap.size w w' := by
  have hn0 : B [] = ⟨#[]⟩ := rfl
  have hsm := cell_set_map
  unfold DV A4 at *
  go_enter Tryz.func10, Tryz.ntmps10
  go_wp2_with (go_at_call 24; refine (c14 _).mono ?_; rintro r w1 ⟨rfl, hb1⟩; obtain ⟨hc1, hf1⟩ := bcell hb1; have hz1_0 : w.heap.size < w1.heap.size := lt_below hb1 ltg; have hl1_0 := Nat.le_of_lt hz1_0; have hA1 := bnext (w0 := w) bgo hb1; have hs1 := hA1.size; clear hb1)
  exact bodyPost_ret (v := .tuple #[.string ⟨#[]⟩, .int .i64 E]) (by simp only [results, Tryz.results10]; go_simp) rfl ⟨rfl, bgo⟩
variable (c14 : ∀ W, Calls Tryz.prog 24 #[.int .i64 n, A4 V] W fun r w' => r = .returned (.tuple #[DV c s g x k, .int .i64 0]) ∧ Below W.heap.size W w')
include c14
set_option maxHeartbeats 2000000 in
theorem hw_o (hc : (c != 1) = true) (T : List UInt8) (hT10 : Tb10 w) (c15 : ∀ W, Tb10 W → Calls Tryz.prog 25 #[DV c s g x k] W fun r w' => r = .returned (.string (B T)) ∧ Below W.heap.size W w') :
    Calls Tryz.prog 10 #[.int .i64 n, A4 V] w fun r w' => r = .returned (.tuple #[.string (B T), .int .i64 0]) ∧ Below w.heap.size w w' := by
  have hsm := cell_set_map
  unfold DV A4 at *
  go_enter Tryz.func10, Tryz.ntmps10
  go_wp2_with (first
    | (go_at_call 24; refine (c14 _).mono ?_; rintro r w1 ⟨rfl, hb1⟩; obtain ⟨hc1, hf1⟩ := bcell hb1; have hz1_0 : w.heap.size < w1.heap.size := lt_below hb1 ltg; have hl1_0 := Nat.le_of_lt hz1_0; have hA1 := bnext (w0 := w) bgo hb1; have hs1 := hA1.size; clear hb1)
    | (go_at_call 25; refine (c15 _ (hT10.next bgo)).mono ?_; rintro r w2 ⟨rfl, hb2⟩; obtain ⟨hc2, hf2⟩ := bcell hb2; have hz2_0 : w.heap.size < w2.heap.size := lt_below hb2 ltg; have hl2_0 := Nat.le_of_lt hz2_0; have hz2_1 : w1.heap.size < w2.heap.size := lt_below hb2 ltg; have hl2_1 := Nat.le_of_lt hz2_1; have hA2 := bnext (w0 := w) bgo hb2; have hs2 := hA2.size; clear hb2))
  exact bodyPost_ret (v := .tuple #[.string (B T), .int .i64 0]) (by simp only [results, Tryz.results10]; go_simp) rfl ⟨rfl, bgo⟩
variable (hc : c = 1)
include hc
set_option maxHeartbeats 2000000 in
theorem hw_0 (c16 : ∀ W v, Nt 4 k v W → Calls Tryz.prog 26 #[v] W fun r w' => r = .returned (.int .i64 0) ∧ W = w') (hk : k < 2 ^ 256) :
    Calls Tryz.prog 10 #[.int .i64 n, A4 V] w fun r w' => r = .returned (.tuple #[.string (B (sgL s ++ hbZ)), .int .i64 0]) ∧ Below w.heap.size w w' := by
  subst hc
  have hsm := cell_set_map
  have htl := B_toList
  unfold DV A4 at *
  cases s with
  | false =>
    have e : B (sgL false ++ hbZ) = ⟨#[48, 120, 48, 112, 43, 48]⟩ := rfl
    have pp : (⟨#[48, 120]⟩ : ByteArray) ++ ⟨#[48, 112, 43, 48]⟩ = ⟨#[48, 120, 48, 112, 43, 48]⟩ := rfl
    rw [e]
    go_enter Tryz.func10, Tryz.ntmps10
    go_wp2_with (first
      | (go_at_call 24; refine (c14 _).mono ?_; rintro r w1 ⟨rfl, hb1⟩; obtain ⟨hc1, hf1⟩ := bcell hb1; have hz1_0 : w.heap.size < w1.heap.size := lt_below hb1 ltg; have hl1_0 := Nat.le_of_lt hz1_0; have hA1 := bnext (w0 := w) bgo hb1; have hs1 := hA1.size; clear hb1)
      | (go_at_call 26; refine (c16 _ _ (nt_at hk (by simp) (by go_simp) (by go_simp) (by go_simp) (by go_simp))).mono ?_; rintro r w2 ⟨rfl, rfl⟩))
    exact bodyPost_ret (v := .tuple #[.string ⟨#[48, 120, 48, 112, 43, 48]⟩, .int .i64 0]) (by simp only [results, Tryz.results10]; go_simp) rfl ⟨rfl, bgo⟩
  | true =>
    have e : B (sgL true ++ hbZ) = ⟨#[45, 48, 120, 48, 112, 43, 48]⟩ := rfl
    have pp : (⟨#[45, 48, 120]⟩ : ByteArray) ++ ⟨#[48, 112, 43, 48]⟩ = ⟨#[45, 48, 120, 48, 112, 43, 48]⟩ := rfl
    rw [e]
    go_enter Tryz.func10, Tryz.ntmps10
    go_wp2_with (first
      | (go_at_call 24; refine (c14 _).mono ?_; rintro r w1 ⟨rfl, hb1⟩; obtain ⟨hc1, hf1⟩ := bcell hb1; have hz1_0 : w.heap.size < w1.heap.size := lt_below hb1 ltg; have hl1_0 := Nat.le_of_lt hz1_0; have hA1 := bnext (w0 := w) bgo hb1; have hs1 := hA1.size; clear hb1)
      | (go_at_call 26; refine (c16 _ _ (nt_at hk (by simp) (by go_simp) (by go_simp) (by go_simp) (by go_simp))).mono ?_; rintro r w2 ⟨rfl, rfl⟩))
    exact bodyPost_ret (v := .tuple #[.string ⟨#[45, 48, 120, 48, 112, 43, 48]⟩, .int .i64 0]) (by simp only [results, Tryz.results10]; go_simp) rfl ⟨rfl, bgo⟩
variable (L CC R0 R : Nat) (RR : Nat → Nat) (D0 D I : List UInt8) (X : Int) (hk : k < 2 ^ 256) (hL : 1 ≤ L ∧ L ≤ 300) (hCC : CC = (L - 1 + 3) / 4) (hx : -20000 ≤ x ∧ x ≤ 20000) (hX : X = x + L - 1) (hI : I.length ≤ 100)
  (hD0 : D0.length = CC) (hD : hxS D0 = D) (hG : ∀ i, i < CC → ∃ y, y < 16 ∧ RR i % 16 = y ∧ D0.take (i + 1) = D0.take i ++ [hxd y])
  (c16 : ∀ W v, Nt 4 k v W → Calls Tryz.prog 26 #[v] W fun r w' => r = .returned (.int .i64 (L : Int)) ∧ W = w')
  (c17 : ∀ W, Calls Tryz.prog 27 #[A4 k, .int .i64 0, .int .i64 ((L : Int) - 1)] W fun r w' => ∃ v, r = .returned v ∧ NT 19 R0 v w' ∧ Below W.heap.size W w')
  (c18 : ∀ W v, NT 19 R0 v W → Calls Tryz.prog 28 #[v, .int .i64 (4 * (CC : Int) - ((L : Int) - 1))] W fun r w' => ∃ v, r = .returned v ∧ NT 60 R v w' ∧ Below W.heap.size W w')
  (c19 : ∀ W v (i : Nat), i < CC → NT 60 R v W → Calls Tryz.prog 29 #[v, .int .i64 (4 * ((CC : Int) - 1 - i))] W fun r w' => ∃ v b, r = .returned (.tuple #[v, .bool b]) ∧ NV 60 (RR i) v w' ∧ Below W.heap.size W w')
  (c20 : ∀ W v Y, NV 60 Y v W → Calls Tryz.prog 30 #[v] W fun r w' => r = .returned (.int .i64 ((Y % 16 : Nat) : Int)) ∧ W = w')
  (c21 : ∀ W, Below w.heap.size w W → Calls Tryz.prog 31 #[.int .i64 X] W fun r w' => r = .returned (.string (B I)) ∧ Below W.heap.size W w')
include hk hL hCC hx hX hI hD0 hD hG c16 c17 c18 c19 c20 c21
set_option maxHeartbeats 8000000 in
theorem hw_p (hs : s = false) (TT : List UInt8) (hTT : TT = [48, 120] ++ [49] ++ (if D = [] then [] else 46 :: D) ++ [112] ++ (if 0 ≤ X then [43] else []) ++ I) :
    Calls Tryz.prog 10 #[.int .i64 n, A4 V] w fun r w' => r = .returned (.tuple #[.string (B TT), .int .i64 0]) ∧ Below w.heap.size w w' := by
  subst hc hs
  have HTT : Hid (TT = [48, 120] ++ [49] ++ (if D = [] then [] else 46 :: D) ++ [112] ++ (if 0 ≤ X then [43] else []) ++ I) := hTT
  clear hTT
  obtain ⟨il, hil⟩ : ∃ il, I.length = il := ⟨_, rfl⟩
  have hil2 : il ≤ 100 := by omega
  have hsm := cell_set_map
  have htl := B_toList
  have zI : (B I).size = il := (B_size I).trans hil
  clear hil hI
  have HD : Hid (D0.length = CC ∧ hxS D0 = D) := ⟨hD0, hD⟩
  have HG : Hid (∀ i, i < CC → ∃ y, y < 16 ∧ RR i % 16 = y ∧ D0.take (i + 1) = D0.take i ++ [hxd y]) := hG
  clear hD0 hD hG
  have hLi : (1 : Int) ≤ L ∧ (L : Int) ≤ 300 := by omega
  have hCi : (CC : Int) ≤ 100 := by omega
  have hq4 : ((L : Int) - 1 + 3) / 4 = (CC : Int) := by omega
  have hq5 : ((L : Int) - 1 + 3).tdiv 4 = (CC : Int) := by rw [Int.tdiv_eq_ediv_of_nonneg (by omega)]; exact hq4
  have hL0 : ((L : Int) == 0) = false := by rw [beq_eq_false_iff_ne]; omega
  have hX' : x + (L : Int) - 1 = X := hX.symm
  clear hCC hX
  unfold DV A4 at *
  go_enter Tryz.func10, Tryz.ntmps10
  go_upto_region 12 with (first
    | (go_at_call 24; refine (c14 _).mono ?_; rintro r w1 ⟨rfl, hb1⟩; obtain ⟨hc1, hf1⟩ := bcell hb1; have hz1_0 : w.heap.size < w1.heap.size := lt_below hb1 ltg; have hl1_0 := Nat.le_of_lt hz1_0; have hA1 := bnext (w0 := w) bgo hb1; have hs1 := hA1.size; clear hb1)
    | (go_at_call 26; refine (c16 _ _ (nt_at hk (by simp) (by go_simp) (by go_simp) (by go_simp) (by go_simp))).mono ?_; rintro r w2 ⟨rfl, rfl⟩))
  go_upto_region 13 with (go_at_call 27; refine (c17 _).mono ?_; rintro r w3 ⟨v3, rfl, hv3, hb3⟩; obtain ⟨hc3, hf3⟩ := bcell hb3; have hz3_0 : w.heap.size < w3.heap.size := lt_below hb3 ltg; have hl3_0 := Nat.le_of_lt hz3_0; have hz3_1 : w1.heap.size < w3.heap.size := lt_below hb3 ltg; have hl3_1 := Nat.le_of_lt hz3_1; have hA3 := bnext (w0 := w) bgo hb3; have hs3 := hA3.size; clear hb3)
  clear c14 c16 c17
  go_wp2_with (go_at_call 28; refine (c18 _ _ hv3).mono ?_; rintro r w4 ⟨v4, rfl, hv4, hb4⟩; obtain ⟨hc4, hf4⟩ := bcell hb4; have hz4_0 : w.heap.size < w4.heap.size := lt_below hb4 ltg; have hl4_0 := Nat.le_of_lt hz4_0; have hz4_1 : w1.heap.size < w4.heap.size := lt_below hb4 ltg; have hl4_1 := Nat.le_of_lt hz4_1; have hA4 := bnext (w0 := w) bgo hb4; have hs4 := hA4.size; clear hb4)
  clear c18 hq4 hq5
  have kx : w4.cell? ⟨w1.heap.size, 3, none⟩ = some (.int .i64 x) := by go_simp
  have hw14 : w1.heap.size < w4.heap.size := by assumption
  go_loopw [12, 13, 14, 15, 57, 58, 59, 60, 61, 62, 63, 64, 65, 66, 67, 68, 69, 70, 71, 72, 73, 74, 75, 76] (fun t12 _ _ _ t57 _ _ _ _ _ _ _ _ _ _ _ _ _ _ _ _ _ _ _ wr => ∃ i : Nat, i ≤ CC ∧ t12 = .string (B (D0.take i)) ∧ t57 = .int .i64 (i : Int) ∧ Below w4.heap.size w4 wr) (fun _ _ _ _ t57 _ _ _ _ _ _ _ _ _ _ _ _ _ _ _ _ _ _ _ _ => CC - (intOf t57).toNat)
  case atStart => exact ⟨0, Nat.zero_le _, rfl, rfl, Below.refl _ _⟩
  case round =>
    obtain ⟨i, hi, rfl, rfl, hB⟩ := hrel
    by_cases h4 : i < CC
    · obtain ⟨y, hy, hyr, hyt⟩ := HG.out i h4
      have h4i : (i : Int) < CC := by omega
      have q1 : B (D0.take i) ++ B [hxd y] = B (D0.take (i + 1)) := by rw [B_app, hyt]
      have q2 : (B (D0.take i)).size = i := by rw [B_size, List.length_take, HD.out.1]; omega
      have q3 : (B [hxd y]).size = 1 := B_size _
      have hix := hx_const y hy
      have hcv := hx_conv y hy
      have c19i := fun W v => c19 W v i h4
      have hyi : ((y : Nat) : Int) < 16 := by omega
      have hys : y < 16 := hy
      clear c19 hyt
      generalize D0.take i = G at *
      generalize hG1 : D0.take (i + 1) = G1 at *
      go_wp2_with (first
        | (go_at_call 29; refine (c19i _ _ (hv4.next hB)).mono ?_; rintro r w5 ⟨v5, b5, rfl, hv5, hb5⟩; have hB5 := bnx hB hb5)
        | (go_at_call 30; refine (c20 _ _ _ hv5).mono ?_; rintro r w6 ⟨rfl, rfl⟩; rw [hyr]))
      go_roundw
      case rel => exact ⟨i + 1, h4, by rw [hG1], by go_num, hB5⟩
      case measure => simp [intOf]; omega
    · obtain rfl : i = CC := by omega
      have e0 : D0.take i = D0 := List.take_of_length_le (by rw [HD.out.1]; exact Nat.le_refl _)
      have kx2 : wr.cell? ⟨w1.heap.size, 3, none⟩ = some (.int .i64 x) := ((bcell hB).1 _ _ hw14).trans kx
      clear HG c19 c20 hv4
      go_wp2
      go_loop [12, 77, 78, 79, 80, 81, 82, 83, 84, 85, 86, 87, 88, 89, 90, 91, 92] (fun t12 _ _ _ _ _ _ _ _ _ _ _ _ _ _ _ _ => ∃ j : Nat, j ≤ i ∧ t12 = .string (B (D0.take j)) ∧ hxS (D0.take j) = D) (fun t12 _ _ _ _ _ _ _ _ _ _ _ _ _ _ _ _ => (match t12 with | .string b => b.size | _ => 0))
      case atStart => exact ⟨i, Nat.le_refl _, rfl, by rw [e0, HD.out.2]⟩
      case round =>
        obtain ⟨j, hj, rfl, hst⟩ := hrel
        have hl0 := HD.out.1
        cases j with
        | zero =>
          have hDn : D = [] := by rw [← hst]; rfl
          have e00 : B (D0.take 0) = ⟨#[]⟩ := rfl
          rw [e00]
          clear hst HD e0 e00 hl0
          by_cases hXs : 0 ≤ X
          · have HF : Hid ([48, 120] ++ [49] ++ (if D = [] then [] else 46 :: D) ++ [112] ++ (if 0 ≤ X then [43] else []) ++ I = ([48, 120] ++ [49]) ++ [112, 43] ++ I) := by
              show _ = _
              rw [if_pos hDn, if_pos hXs]
              simp
            have p1 : (⟨#[48, 120]⟩ : ByteArray) ++ (⟨#[49]⟩ : ByteArray) = B ([48, 120] ++ [49]) := rfl
            obtain ⟨A1, hA1⟩ : ∃ A1 : List UInt8, [48, 120] ++ [49] = A1 := ⟨_, rfl⟩
            have z1 : (B A1).size = 3 := by rw [← hA1]; rfl
            rw [hA1] at p1
            have HA1 : Hid ([48, 120] ++ [49] = A1) := hA1
            clear hA1
            have p4 : B A1 ++ (⟨#[112, 43]⟩ : ByteArray) = B (A1 ++ [112, 43]) := B_app A1 [112, 43]
            obtain ⟨A4', hA4'⟩ : ∃ A4' : List UInt8, A1 ++ [112, 43] = A4' := ⟨_, rfl⟩
            have z4 : (B A4').size ≤ 400 := by rw [← hA4', B_size, List.length_append]; simp only [List.length_cons, List.length_nil]; rw [B_size] at z1; omega
            rw [hA4'] at p4
            have HA4 : Hid (A1 ++ [112, 43] = A4') := hA4'
            clear hA4'
            have p5 : B A4' ++ B I = B (A4' ++ I) := B_app A4' I
            obtain ⟨A5, hA5⟩ : ∃ A5 : List UInt8, A4' ++ I = A5 := ⟨_, rfl⟩
            rw [hA5] at p5
            have HA5 : Hid (A4' ++ I = A5) := hA5
            clear hA5 hDn
            obtain ⟨z5, hz5⟩ : ∃ z5, (B A4').size = z5 := ⟨_, rfl⟩
            have hz5b : z5 ≤ 400 := by omega
            clear z4
            go_wp2_with (go_at_call 31; refine (c21 _ (bnx hA4 hB)).mono ?_; rintro r w6 ⟨rfl, hb6⟩; have hB6 := bnx (bnx hA4 hB) hb6)
            exact bodyPost_ret (v := .tuple #[.string (B A5), .int .i64 0]) (by simp only [results, Tryz.results10]; go_simp) rfl ⟨by rw [HTT.out, HF.out, HA1.out, HA4.out, HA5.out], hB6⟩
          · have HF : Hid ([48, 120] ++ [49] ++ (if D = [] then [] else 46 :: D) ++ [112] ++ (if 0 ≤ X then [43] else []) ++ I = ([48, 120] ++ [49]) ++ [112] ++ I) := by
              show _ = _
              rw [if_pos hDn, if_neg hXs]
              simp
            have p1 : (⟨#[48, 120]⟩ : ByteArray) ++ (⟨#[49]⟩ : ByteArray) = B ([48, 120] ++ [49]) := rfl
            obtain ⟨A1, hA1⟩ : ∃ A1 : List UInt8, [48, 120] ++ [49] = A1 := ⟨_, rfl⟩
            have z1 : (B A1).size = 3 := by rw [← hA1]; rfl
            rw [hA1] at p1
            have HA1 : Hid ([48, 120] ++ [49] = A1) := hA1
            clear hA1
            have p4 : B A1 ++ (⟨#[112]⟩ : ByteArray) = B (A1 ++ [112]) := B_app A1 [112]
            obtain ⟨A4', hA4'⟩ : ∃ A4' : List UInt8, A1 ++ [112] = A4' := ⟨_, rfl⟩
            have z4 : (B A4').size ≤ 400 := by rw [← hA4', B_size, List.length_append]; simp only [List.length_cons, List.length_nil]; rw [B_size] at z1; omega
            rw [hA4'] at p4
            have HA4 : Hid (A1 ++ [112] = A4') := hA4'
            clear hA4'
            have p5 : B A4' ++ B I = B (A4' ++ I) := B_app A4' I
            obtain ⟨A5, hA5⟩ : ∃ A5 : List UInt8, A4' ++ I = A5 := ⟨_, rfl⟩
            rw [hA5] at p5
            have HA5 : Hid (A4' ++ I = A5) := hA5
            clear hA5 hDn
            obtain ⟨z5, hz5⟩ : ∃ z5, (B A4').size = z5 := ⟨_, rfl⟩
            have hz5b : z5 ≤ 400 := by omega
            clear z4
            go_wp2_with (go_at_call 31; refine (c21 _ (bnx hA4 hB)).mono ?_; rintro r w6 ⟨rfl, hb6⟩; have hB6 := bnx (bnx hA4 hB) hb6)
            exact bodyPost_ret (v := .tuple #[.string (B A5), .int .i64 0]) (by simp only [results, Tryz.results10]; go_simp) rfl ⟨by rw [HTT.out, HF.out, HA1.out, HA4.out, HA5.out], hB6⟩
        | succ j =>
          have hjl : j < D0.length := by omega
          have hsp : D0.take (j + 1) = D0.take j ++ [D0[j]'hjl] := List.take_succ_eq_append_getElem hjl
          have zj : (B (D0.take (j + 1))).size = j + 1 := by rw [B_size, List.length_take]; omega
          have hix : IDX (B (D0.take (j + 1))) j ((((D0[j]'hjl).toNat : Nat)) : Int) := IDX_get (by rw [hsp, List.getElem?_append_right (by rw [List.length_take]; omega), List.length_take, Nat.min_eq_left (by omega), Nat.sub_self]; rfl)
          have hjs : j < (B (D0.take (j + 1))).size := by omega
          have hii := hix hjs
          by_cases hy : (D0[j]'hjl == 48) = true
          · have hy8 : (D0[j]'hjl) = 48 := by simpa using hy
            have hext : (B (D0.take (j + 1))).extract 0 j = B (D0.take j) := by rw [B_ext, List.drop_zero, List.take_take, Nat.min_eq_left (by omega)]
            have HST : Hid (hxS (D0.take j) = D) := by show _ = _; rw [← hst, hsp, hy8, hxS_zero]
            have zj' : (B (D0.take j)).size = j := by rw [B_size, List.length_take]; omega
            rw [hy8] at hii
            clear hst hsp hix hy hy8 e0
            have hii' : (((B (D0.take (j + 1)))[j]'hjs).toNat : Int) = 48 := hii
            clear hii
            generalize hGa : D0.take (j + 1) = Ga at *
            generalize hGb : D0.take j = Gb at *
            go_wp2
            go_round
            case rel => exact ⟨j, by omega, by rw [hGb], by rw [hGb]; exact HST.out⟩
            case measure => simp [zj, zj']
          · have hy' : (D0[j]'hjl == 48) = false := by simpa using hy
            have hDe : D0.take (j + 1) = D := by rw [← hst, hsp, hxS_else _ hy']
            have hn48 : (((((D0[j]'hjl).toNat : Nat)) : Int) == 48) = false := by
              rw [beq_eq_false_iff_ne]
              intro h
              have : (D0[j]'hjl) = 48 := UInt8.toNat_inj.1 (by have : (48 : UInt8).toNat = 48 := rfl; omega)
              rw [this] at hy'
              exact absurd hy' (by decide)
            have hDl : D.length = j + 1 := by rw [← hDe, List.length_take]; omega
            have hDn : ¬ D = [] := fun e => by rw [e] at hDl; simp at hDl
            clear hii
            rw [hDe] at hix ⊢
            have hjsD : j < (B D).size := by rw [B_size]; omega
            have hiiD := hix hjsD
            have zjD : (B D).size = j + 1 := by rw [B_size]; exact hDl
            have hjb : j ≤ 100 := by omega
            clear hst hsp hix hy hy' hDe e0 HD hl0 zj hjs
            generalize ((((D0[j]'hjl).toNat : Nat)) : Int) = yv at *
            clear hjl
            by_cases hXs : 0 ≤ X
            · have HF : Hid ([48, 120] ++ [49] ++ (if D = [] then [] else 46 :: D) ++ [112] ++ (if 0 ≤ X then [43] else []) ++ I = ([48, 120] ++ [49]) ++ [46] ++ D ++ [112, 43] ++ I) := by
                show _ = _
                rw [if_neg hDn, if_pos hXs]
                simp
              have p1 : (⟨#[48, 120]⟩ : ByteArray) ++ (⟨#[49]⟩ : ByteArray) = B ([48, 120] ++ [49]) := rfl
              obtain ⟨A1, hA1⟩ : ∃ A1 : List UInt8, [48, 120] ++ [49] = A1 := ⟨_, rfl⟩
              have z1 : (B A1).size = 3 := by rw [← hA1]; rfl
              rw [hA1] at p1
              have HA1 : Hid ([48, 120] ++ [49] = A1) := hA1
              clear hA1
              have p2 : B A1 ++ (⟨#[46]⟩ : ByteArray) = B (A1 ++ [46]) := B_app A1 [46]
              obtain ⟨A2, hA2⟩ : ∃ A2 : List UInt8, A1 ++ [46] = A2 := ⟨_, rfl⟩
              have z2 : (B A2).size = 4 := by rw [← hA2, B_size, List.length_append]; rw [B_size] at z1; simp [z1]
              rw [hA2] at p2
              have HA2 : Hid (A1 ++ [46] = A2) := hA2
              clear hA2
              have p3 : B A2 ++ B D = B (A2 ++ D) := B_app A2 D
              obtain ⟨A3, hA3⟩ : ∃ A3 : List UInt8, A2 ++ D = A3 := ⟨_, rfl⟩
              have z3 : (B A3).size = 4 + (j + 1) := by rw [← hA3, B_size, List.length_append]; rw [B_size] at z2; omega
              rw [hA3] at p3
              have HA3 : Hid (A2 ++ D = A3) := hA3
              clear hA3
              have hemp : D.isEmpty = false := by cases D with | nil => exact absurd rfl hDn | cons _ _ => rfl
              have p4 : B A3 ++ (⟨#[112, 43]⟩ : ByteArray) = B (A3 ++ [112, 43]) := B_app A3 [112, 43]
              obtain ⟨A4', hA4'⟩ : ∃ A4' : List UInt8, A3 ++ [112, 43] = A4' := ⟨_, rfl⟩
              have z4 : (B A4').size ≤ 400 := by rw [← hA4', B_size, List.length_append]; simp only [List.length_cons, List.length_nil]; rw [B_size] at z3; omega
              rw [hA4'] at p4
              have HA4 : Hid (A3 ++ [112, 43] = A4') := hA4'
              clear hA4'
              have p5 : B A4' ++ B I = B (A4' ++ I) := B_app A4' I
              obtain ⟨A5, hA5⟩ : ∃ A5 : List UInt8, A4' ++ I = A5 := ⟨_, rfl⟩
              rw [hA5] at p5
              have HA5 : Hid (A4' ++ I = A5) := hA5
              clear hA5 hDn
              obtain ⟨z5, hz5⟩ : ∃ z5, (B A4').size = z5 := ⟨_, rfl⟩
              have hz5b : z5 ≤ 400 := by omega
              clear z4
              go_wp2_with (go_at_call 31; refine (c21 _ (bnx hA4 hB)).mono ?_; rintro r w6 ⟨rfl, hb6⟩; have hB6 := bnx (bnx hA4 hB) hb6)
              exact bodyPost_ret (v := .tuple #[.string (B A5), .int .i64 0]) (by simp only [results, Tryz.results10]; go_simp) rfl ⟨by rw [HTT.out, HF.out, HA1.out, HA2.out, HA3.out, HA4.out, HA5.out], hB6⟩
            · have HF : Hid ([48, 120] ++ [49] ++ (if D = [] then [] else 46 :: D) ++ [112] ++ (if 0 ≤ X then [43] else []) ++ I = ([48, 120] ++ [49]) ++ [46] ++ D ++ [112] ++ I) := by
                show _ = _
                rw [if_neg hDn, if_neg hXs]
                simp
              have p1 : (⟨#[48, 120]⟩ : ByteArray) ++ (⟨#[49]⟩ : ByteArray) = B ([48, 120] ++ [49]) := rfl
              obtain ⟨A1, hA1⟩ : ∃ A1 : List UInt8, [48, 120] ++ [49] = A1 := ⟨_, rfl⟩
              have z1 : (B A1).size = 3 := by rw [← hA1]; rfl
              rw [hA1] at p1
              have HA1 : Hid ([48, 120] ++ [49] = A1) := hA1
              clear hA1
              have p2 : B A1 ++ (⟨#[46]⟩ : ByteArray) = B (A1 ++ [46]) := B_app A1 [46]
              obtain ⟨A2, hA2⟩ : ∃ A2 : List UInt8, A1 ++ [46] = A2 := ⟨_, rfl⟩
              have z2 : (B A2).size = 4 := by rw [← hA2, B_size, List.length_append]; rw [B_size] at z1; simp [z1]
              rw [hA2] at p2
              have HA2 : Hid (A1 ++ [46] = A2) := hA2
              clear hA2
              have p3 : B A2 ++ B D = B (A2 ++ D) := B_app A2 D
              obtain ⟨A3, hA3⟩ : ∃ A3 : List UInt8, A2 ++ D = A3 := ⟨_, rfl⟩
              have z3 : (B A3).size = 4 + (j + 1) := by rw [← hA3, B_size, List.length_append]; rw [B_size] at z2; omega
              rw [hA3] at p3
              have HA3 : Hid (A2 ++ D = A3) := hA3
              clear hA3
              have hemp : D.isEmpty = false := by cases D with | nil => exact absurd rfl hDn | cons _ _ => rfl
              have p4 : B A3 ++ (⟨#[112]⟩ : ByteArray) = B (A3 ++ [112]) := B_app A3 [112]
              obtain ⟨A4', hA4'⟩ : ∃ A4' : List UInt8, A3 ++ [112] = A4' := ⟨_, rfl⟩
              have z4 : (B A4').size ≤ 400 := by rw [← hA4', B_size, List.length_append]; simp only [List.length_cons, List.length_nil]; rw [B_size] at z3; omega
              rw [hA4'] at p4
              have HA4 : Hid (A3 ++ [112] = A4') := hA4'
              clear hA4'
              have p5 : B A4' ++ B I = B (A4' ++ I) := B_app A4' I
              obtain ⟨A5, hA5⟩ : ∃ A5 : List UInt8, A4' ++ I = A5 := ⟨_, rfl⟩
              rw [hA5] at p5
              have HA5 : Hid (A4' ++ I = A5) := hA5
              clear hA5 hDn
              obtain ⟨z5, hz5⟩ : ∃ z5, (B A4').size = z5 := ⟨_, rfl⟩
              have hz5b : z5 ≤ 400 := by omega
              clear z4
              go_wp2_with (go_at_call 31; refine (c21 _ (bnx hA4 hB)).mono ?_; rintro r w6 ⟨rfl, hb6⟩; have hB6 := bnx (bnx hA4 hB) hb6)
              exact bodyPost_ret (v := .tuple #[.string (B A5), .int .i64 0]) (by simp only [results, Tryz.results10]; go_simp) rfl ⟨by rw [HTT.out, HF.out, HA1.out, HA2.out, HA3.out, HA4.out, HA5.out], hB6⟩
set_option maxHeartbeats 8000000 in
theorem hw_m (hs : s = true) (TT : List UInt8) (hTT : TT = [45, 48, 120] ++ [49] ++ (if D = [] then [] else 46 :: D) ++ [112] ++ (if 0 ≤ X then [43] else []) ++ I) :
    Calls Tryz.prog 10 #[.int .i64 n, A4 V] w fun r w' => r = .returned (.tuple #[.string (B TT), .int .i64 0]) ∧ Below w.heap.size w w' := by
  subst hc hs
  have HTT : Hid (TT = [45, 48, 120] ++ [49] ++ (if D = [] then [] else 46 :: D) ++ [112] ++ (if 0 ≤ X then [43] else []) ++ I) := hTT
  clear hTT
  obtain ⟨il, hil⟩ : ∃ il, I.length = il := ⟨_, rfl⟩
  have hil2 : il ≤ 100 := by omega
  have hsm := cell_set_map
  have htl := B_toList
  have zI : (B I).size = il := (B_size I).trans hil
  clear hil hI
  have HD : Hid (D0.length = CC ∧ hxS D0 = D) := ⟨hD0, hD⟩
  have HG : Hid (∀ i, i < CC → ∃ y, y < 16 ∧ RR i % 16 = y ∧ D0.take (i + 1) = D0.take i ++ [hxd y]) := hG
  clear hD0 hD hG
  have hLi : (1 : Int) ≤ L ∧ (L : Int) ≤ 300 := by omega
  have hCi : (CC : Int) ≤ 100 := by omega
  have hq4 : ((L : Int) - 1 + 3) / 4 = (CC : Int) := by omega
  have hq5 : ((L : Int) - 1 + 3).tdiv 4 = (CC : Int) := by rw [Int.tdiv_eq_ediv_of_nonneg (by omega)]; exact hq4
  have hL0 : ((L : Int) == 0) = false := by rw [beq_eq_false_iff_ne]; omega
  have hX' : x + (L : Int) - 1 = X := hX.symm
  clear hCC hX
  unfold DV A4 at *
  go_enter Tryz.func10, Tryz.ntmps10
  go_upto_region 12 with (first
    | (go_at_call 24; refine (c14 _).mono ?_; rintro r w1 ⟨rfl, hb1⟩; obtain ⟨hc1, hf1⟩ := bcell hb1; have hz1_0 : w.heap.size < w1.heap.size := lt_below hb1 ltg; have hl1_0 := Nat.le_of_lt hz1_0; have hA1 := bnext (w0 := w) bgo hb1; have hs1 := hA1.size; clear hb1)
    | (go_at_call 26; refine (c16 _ _ (nt_at hk (by simp) (by go_simp) (by go_simp) (by go_simp) (by go_simp))).mono ?_; rintro r w2 ⟨rfl, rfl⟩))
  go_upto_region 13 with (go_at_call 27; refine (c17 _).mono ?_; rintro r w3 ⟨v3, rfl, hv3, hb3⟩; obtain ⟨hc3, hf3⟩ := bcell hb3; have hz3_0 : w.heap.size < w3.heap.size := lt_below hb3 ltg; have hl3_0 := Nat.le_of_lt hz3_0; have hz3_1 : w1.heap.size < w3.heap.size := lt_below hb3 ltg; have hl3_1 := Nat.le_of_lt hz3_1; have hA3 := bnext (w0 := w) bgo hb3; have hs3 := hA3.size; clear hb3)
  clear c14 c16 c17
  go_wp2_with (go_at_call 28; refine (c18 _ _ hv3).mono ?_; rintro r w4 ⟨v4, rfl, hv4, hb4⟩; obtain ⟨hc4, hf4⟩ := bcell hb4; have hz4_0 : w.heap.size < w4.heap.size := lt_below hb4 ltg; have hl4_0 := Nat.le_of_lt hz4_0; have hz4_1 : w1.heap.size < w4.heap.size := lt_below hb4 ltg; have hl4_1 := Nat.le_of_lt hz4_1; have hA4 := bnext (w0 := w) bgo hb4; have hs4 := hA4.size; clear hb4)
  clear c18 hq4 hq5
  have kx : w4.cell? ⟨w1.heap.size, 3, none⟩ = some (.int .i64 x) := by go_simp
  have hw14 : w1.heap.size < w4.heap.size := by assumption
  go_loopw [12, 13, 14, 15, 57, 58, 59, 60, 61, 62, 63, 64, 65, 66, 67, 68, 69, 70, 71, 72, 73, 74, 75, 76] (fun t12 _ _ _ t57 _ _ _ _ _ _ _ _ _ _ _ _ _ _ _ _ _ _ _ wr => ∃ i : Nat, i ≤ CC ∧ t12 = .string (B (D0.take i)) ∧ t57 = .int .i64 (i : Int) ∧ Below w4.heap.size w4 wr) (fun _ _ _ _ t57 _ _ _ _ _ _ _ _ _ _ _ _ _ _ _ _ _ _ _ _ => CC - (intOf t57).toNat)
  case atStart => exact ⟨0, Nat.zero_le _, rfl, rfl, Below.refl _ _⟩
  case round =>
    obtain ⟨i, hi, rfl, rfl, hB⟩ := hrel
    by_cases h4 : i < CC
    · obtain ⟨y, hy, hyr, hyt⟩ := HG.out i h4
      have h4i : (i : Int) < CC := by omega
      have q1 : B (D0.take i) ++ B [hxd y] = B (D0.take (i + 1)) := by rw [B_app, hyt]
      have q2 : (B (D0.take i)).size = i := by rw [B_size, List.length_take, HD.out.1]; omega
      have q3 : (B [hxd y]).size = 1 := B_size _
      have hix := hx_const y hy
      have hcv := hx_conv y hy
      have c19i := fun W v => c19 W v i h4
      have hyi : ((y : Nat) : Int) < 16 := by omega
      have hys : y < 16 := hy
      clear c19 hyt
      generalize D0.take i = G at *
      generalize hG1 : D0.take (i + 1) = G1 at *
      go_wp2_with (first
        | (go_at_call 29; refine (c19i _ _ (hv4.next hB)).mono ?_; rintro r w5 ⟨v5, b5, rfl, hv5, hb5⟩; have hB5 := bnx hB hb5)
        | (go_at_call 30; refine (c20 _ _ _ hv5).mono ?_; rintro r w6 ⟨rfl, rfl⟩; rw [hyr]))
      go_roundw
      case rel => exact ⟨i + 1, h4, by rw [hG1], by go_num, hB5⟩
      case measure => simp [intOf]; omega
    · obtain rfl : i = CC := by omega
      have e0 : D0.take i = D0 := List.take_of_length_le (by rw [HD.out.1]; exact Nat.le_refl _)
      have kx2 : wr.cell? ⟨w1.heap.size, 3, none⟩ = some (.int .i64 x) := ((bcell hB).1 _ _ hw14).trans kx
      clear HG c19 c20 hv4
      go_wp2
      go_loop [12, 77, 78, 79, 80, 81, 82, 83, 84, 85, 86, 87, 88, 89, 90, 91, 92] (fun t12 _ _ _ _ _ _ _ _ _ _ _ _ _ _ _ _ => ∃ j : Nat, j ≤ i ∧ t12 = .string (B (D0.take j)) ∧ hxS (D0.take j) = D) (fun t12 _ _ _ _ _ _ _ _ _ _ _ _ _ _ _ _ => (match t12 with | .string b => b.size | _ => 0))
      case atStart => exact ⟨i, Nat.le_refl _, rfl, by rw [e0, HD.out.2]⟩
      case round =>
        obtain ⟨j, hj, rfl, hst⟩ := hrel
        have hl0 := HD.out.1
        cases j with
        | zero =>
          have hDn : D = [] := by rw [← hst]; rfl
          have e00 : B (D0.take 0) = ⟨#[]⟩ := rfl
          rw [e00]
          clear hst HD e0 e00 hl0
          by_cases hXs : 0 ≤ X
          · have HF : Hid ([45, 48, 120] ++ [49] ++ (if D = [] then [] else 46 :: D) ++ [112] ++ (if 0 ≤ X then [43] else []) ++ I = ([45, 48, 120] ++ [49]) ++ [112, 43] ++ I) := by
              show _ = _
              rw [if_pos hDn, if_pos hXs]
              simp
            have p1 : (⟨#[45, 48, 120]⟩ : ByteArray) ++ (⟨#[49]⟩ : ByteArray) = B ([45, 48, 120] ++ [49]) := rfl
            obtain ⟨A1, hA1⟩ : ∃ A1 : List UInt8, [45, 48, 120] ++ [49] = A1 := ⟨_, rfl⟩
            have z1 : (B A1).size = 4 := by rw [← hA1]; rfl
            rw [hA1] at p1
            have HA1 : Hid ([45, 48, 120] ++ [49] = A1) := hA1
            clear hA1
            have p4 : B A1 ++ (⟨#[112, 43]⟩ : ByteArray) = B (A1 ++ [112, 43]) := B_app A1 [112, 43]
            obtain ⟨A4', hA4'⟩ : ∃ A4' : List UInt8, A1 ++ [112, 43] = A4' := ⟨_, rfl⟩
            have z4 : (B A4').size ≤ 400 := by rw [← hA4', B_size, List.length_append]; simp only [List.length_cons, List.length_nil]; rw [B_size] at z1; omega
            rw [hA4'] at p4
            have HA4 : Hid (A1 ++ [112, 43] = A4') := hA4'
            clear hA4'
            have p5 : B A4' ++ B I = B (A4' ++ I) := B_app A4' I
            obtain ⟨A5, hA5⟩ : ∃ A5 : List UInt8, A4' ++ I = A5 := ⟨_, rfl⟩
            rw [hA5] at p5
            have HA5 : Hid (A4' ++ I = A5) := hA5
            clear hA5 hDn
            obtain ⟨z5, hz5⟩ : ∃ z5, (B A4').size = z5 := ⟨_, rfl⟩
            have hz5b : z5 ≤ 400 := by omega
            clear z4
            go_wp2_with (go_at_call 31; refine (c21 _ (bnx hA4 hB)).mono ?_; rintro r w6 ⟨rfl, hb6⟩; have hB6 := bnx (bnx hA4 hB) hb6)
            exact bodyPost_ret (v := .tuple #[.string (B A5), .int .i64 0]) (by simp only [results, Tryz.results10]; go_simp) rfl ⟨by rw [HTT.out, HF.out, HA1.out, HA4.out, HA5.out], hB6⟩
          · have HF : Hid ([45, 48, 120] ++ [49] ++ (if D = [] then [] else 46 :: D) ++ [112] ++ (if 0 ≤ X then [43] else []) ++ I = ([45, 48, 120] ++ [49]) ++ [112] ++ I) := by
              show _ = _
              rw [if_pos hDn, if_neg hXs]
              simp
            have p1 : (⟨#[45, 48, 120]⟩ : ByteArray) ++ (⟨#[49]⟩ : ByteArray) = B ([45, 48, 120] ++ [49]) := rfl
            obtain ⟨A1, hA1⟩ : ∃ A1 : List UInt8, [45, 48, 120] ++ [49] = A1 := ⟨_, rfl⟩
            have z1 : (B A1).size = 4 := by rw [← hA1]; rfl
            rw [hA1] at p1
            have HA1 : Hid ([45, 48, 120] ++ [49] = A1) := hA1
            clear hA1
            have p4 : B A1 ++ (⟨#[112]⟩ : ByteArray) = B (A1 ++ [112]) := B_app A1 [112]
            obtain ⟨A4', hA4'⟩ : ∃ A4' : List UInt8, A1 ++ [112] = A4' := ⟨_, rfl⟩
            have z4 : (B A4').size ≤ 400 := by rw [← hA4', B_size, List.length_append]; simp only [List.length_cons, List.length_nil]; rw [B_size] at z1; omega
            rw [hA4'] at p4
            have HA4 : Hid (A1 ++ [112] = A4') := hA4'
            clear hA4'
            have p5 : B A4' ++ B I = B (A4' ++ I) := B_app A4' I
            obtain ⟨A5, hA5⟩ : ∃ A5 : List UInt8, A4' ++ I = A5 := ⟨_, rfl⟩
            rw [hA5] at p5
            have HA5 : Hid (A4' ++ I = A5) := hA5
            clear hA5 hDn
            obtain ⟨z5, hz5⟩ : ∃ z5, (B A4').size = z5 := ⟨_, rfl⟩
            have hz5b : z5 ≤ 400 := by omega
            clear z4
            go_wp2_with (go_at_call 31; refine (c21 _ (bnx hA4 hB)).mono ?_; rintro r w6 ⟨rfl, hb6⟩; have hB6 := bnx (bnx hA4 hB) hb6)
            exact bodyPost_ret (v := .tuple #[.string (B A5), .int .i64 0]) (by simp only [results, Tryz.results10]; go_simp) rfl ⟨by rw [HTT.out, HF.out, HA1.out, HA4.out, HA5.out], hB6⟩
        | succ j =>
          have hjl : j < D0.length := by omega
          have hsp : D0.take (j + 1) = D0.take j ++ [D0[j]'hjl] := List.take_succ_eq_append_getElem hjl
          have zj : (B (D0.take (j + 1))).size = j + 1 := by rw [B_size, List.length_take]; omega
          have hix : IDX (B (D0.take (j + 1))) j ((((D0[j]'hjl).toNat : Nat)) : Int) := IDX_get (by rw [hsp, List.getElem?_append_right (by rw [List.length_take]; omega), List.length_take, Nat.min_eq_left (by omega), Nat.sub_self]; rfl)
          have hjs : j < (B (D0.take (j + 1))).size := by omega
          have hii := hix hjs
          by_cases hy : (D0[j]'hjl == 48) = true
          · have hy8 : (D0[j]'hjl) = 48 := by simpa using hy
            have hext : (B (D0.take (j + 1))).extract 0 j = B (D0.take j) := by rw [B_ext, List.drop_zero, List.take_take, Nat.min_eq_left (by omega)]
            have HST : Hid (hxS (D0.take j) = D) := by show _ = _; rw [← hst, hsp, hy8, hxS_zero]
            have zj' : (B (D0.take j)).size = j := by rw [B_size, List.length_take]; omega
            rw [hy8] at hii
            clear hst hsp hix hy hy8 e0
            have hii' : (((B (D0.take (j + 1)))[j]'hjs).toNat : Int) = 48 := hii
            clear hii
            generalize hGa : D0.take (j + 1) = Ga at *
            generalize hGb : D0.take j = Gb at *
            go_wp2
            go_round
            case rel => exact ⟨j, by omega, by rw [hGb], by rw [hGb]; exact HST.out⟩
            case measure => simp [zj, zj']
          · have hy' : (D0[j]'hjl == 48) = false := by simpa using hy
            have hDe : D0.take (j + 1) = D := by rw [← hst, hsp, hxS_else _ hy']
            have hn48 : (((((D0[j]'hjl).toNat : Nat)) : Int) == 48) = false := by
              rw [beq_eq_false_iff_ne]
              intro h
              have : (D0[j]'hjl) = 48 := UInt8.toNat_inj.1 (by have : (48 : UInt8).toNat = 48 := rfl; omega)
              rw [this] at hy'
              exact absurd hy' (by decide)
            have hDl : D.length = j + 1 := by rw [← hDe, List.length_take]; omega
            have hDn : ¬ D = [] := fun e => by rw [e] at hDl; simp at hDl
            clear hii
            rw [hDe] at hix ⊢
            have hjsD : j < (B D).size := by rw [B_size]; omega
            have hiiD := hix hjsD
            have zjD : (B D).size = j + 1 := by rw [B_size]; exact hDl
            have hjb : j ≤ 100 := by omega
            clear hst hsp hix hy hy' hDe e0 HD hl0 zj hjs
            generalize ((((D0[j]'hjl).toNat : Nat)) : Int) = yv at *
            clear hjl
            by_cases hXs : 0 ≤ X
            · have HF : Hid ([45, 48, 120] ++ [49] ++ (if D = [] then [] else 46 :: D) ++ [112] ++ (if 0 ≤ X then [43] else []) ++ I = ([45, 48, 120] ++ [49]) ++ [46] ++ D ++ [112, 43] ++ I) := by
                show _ = _
                rw [if_neg hDn, if_pos hXs]
                simp
              have p1 : (⟨#[45, 48, 120]⟩ : ByteArray) ++ (⟨#[49]⟩ : ByteArray) = B ([45, 48, 120] ++ [49]) := rfl
              obtain ⟨A1, hA1⟩ : ∃ A1 : List UInt8, [45, 48, 120] ++ [49] = A1 := ⟨_, rfl⟩
              have z1 : (B A1).size = 4 := by rw [← hA1]; rfl
              rw [hA1] at p1
              have HA1 : Hid ([45, 48, 120] ++ [49] = A1) := hA1
              clear hA1
              have p2 : B A1 ++ (⟨#[46]⟩ : ByteArray) = B (A1 ++ [46]) := B_app A1 [46]
              obtain ⟨A2, hA2⟩ : ∃ A2 : List UInt8, A1 ++ [46] = A2 := ⟨_, rfl⟩
              have z2 : (B A2).size = 5 := by rw [← hA2, B_size, List.length_append]; rw [B_size] at z1; simp [z1]
              rw [hA2] at p2
              have HA2 : Hid (A1 ++ [46] = A2) := hA2
              clear hA2
              have p3 : B A2 ++ B D = B (A2 ++ D) := B_app A2 D
              obtain ⟨A3, hA3⟩ : ∃ A3 : List UInt8, A2 ++ D = A3 := ⟨_, rfl⟩
              have z3 : (B A3).size = 5 + (j + 1) := by rw [← hA3, B_size, List.length_append]; rw [B_size] at z2; omega
              rw [hA3] at p3
              have HA3 : Hid (A2 ++ D = A3) := hA3
              clear hA3
              have hemp : D.isEmpty = false := by cases D with | nil => exact absurd rfl hDn | cons _ _ => rfl
              have p4 : B A3 ++ (⟨#[112, 43]⟩ : ByteArray) = B (A3 ++ [112, 43]) := B_app A3 [112, 43]
              obtain ⟨A4', hA4'⟩ : ∃ A4' : List UInt8, A3 ++ [112, 43] = A4' := ⟨_, rfl⟩
              have z4 : (B A4').size ≤ 400 := by rw [← hA4', B_size, List.length_append]; simp only [List.length_cons, List.length_nil]; rw [B_size] at z3; omega
              rw [hA4'] at p4
              have HA4 : Hid (A3 ++ [112, 43] = A4') := hA4'
              clear hA4'
              have p5 : B A4' ++ B I = B (A4' ++ I) := B_app A4' I
              obtain ⟨A5, hA5⟩ : ∃ A5 : List UInt8, A4' ++ I = A5 := ⟨_, rfl⟩
              rw [hA5] at p5
              have HA5 : Hid (A4' ++ I = A5) := hA5
              clear hA5 hDn
              obtain ⟨z5, hz5⟩ : ∃ z5, (B A4').size = z5 := ⟨_, rfl⟩
              have hz5b : z5 ≤ 400 := by omega
              clear z4
              go_wp2_with (go_at_call 31; refine (c21 _ (bnx hA4 hB)).mono ?_; rintro r w6 ⟨rfl, hb6⟩; have hB6 := bnx (bnx hA4 hB) hb6)
              exact bodyPost_ret (v := .tuple #[.string (B A5), .int .i64 0]) (by simp only [results, Tryz.results10]; go_simp) rfl ⟨by rw [HTT.out, HF.out, HA1.out, HA2.out, HA3.out, HA4.out, HA5.out], hB6⟩
            · have HF : Hid ([45, 48, 120] ++ [49] ++ (if D = [] then [] else 46 :: D) ++ [112] ++ (if 0 ≤ X then [43] else []) ++ I = ([45, 48, 120] ++ [49]) ++ [46] ++ D ++ [112] ++ I) := by
                show _ = _
                rw [if_neg hDn, if_neg hXs]
                simp
              have p1 : (⟨#[45, 48, 120]⟩ : ByteArray) ++ (⟨#[49]⟩ : ByteArray) = B ([45, 48, 120] ++ [49]) := rfl
              obtain ⟨A1, hA1⟩ : ∃ A1 : List UInt8, [45, 48, 120] ++ [49] = A1 := ⟨_, rfl⟩
              have z1 : (B A1).size = 4 := by rw [← hA1]; rfl
              rw [hA1] at p1
              have HA1 : Hid ([45, 48, 120] ++ [49] = A1) := hA1
              clear hA1
              have p2 : B A1 ++ (⟨#[46]⟩ : ByteArray) = B (A1 ++ [46]) := B_app A1 [46]
              obtain ⟨A2, hA2⟩ : ∃ A2 : List UInt8, A1 ++ [46] = A2 := ⟨_, rfl⟩
              have z2 : (B A2).size = 5 := by rw [← hA2, B_size, List.length_append]; rw [B_size] at z1; simp [z1]
              rw [hA2] at p2
              have HA2 : Hid (A1 ++ [46] = A2) := hA2
              clear hA2
              have p3 : B A2 ++ B D = B (A2 ++ D) := B_app A2 D
              obtain ⟨A3, hA3⟩ : ∃ A3 : List UInt8, A2 ++ D = A3 := ⟨_, rfl⟩
              have z3 : (B A3).size = 5 + (j + 1) := by rw [← hA3, B_size, List.length_append]; rw [B_size] at z2; omega
              rw [hA3] at p3
              have HA3 : Hid (A2 ++ D = A3) := hA3
              clear hA3
              have hemp : D.isEmpty = false := by cases D with | nil => exact absurd rfl hDn | cons _ _ => rfl
              have p4 : B A3 ++ (⟨#[112]⟩ : ByteArray) = B (A3 ++ [112]) := B_app A3 [112]
              obtain ⟨A4', hA4'⟩ : ∃ A4' : List UInt8, A3 ++ [112] = A4' := ⟨_, rfl⟩
              have z4 : (B A4').size ≤ 400 := by rw [← hA4', B_size, List.length_append]; simp only [List.length_cons, List.length_nil]; rw [B_size] at z3; omega
              rw [hA4'] at p4
              have HA4 : Hid (A3 ++ [112] = A4') := hA4'
              clear hA4'
              have p5 : B A4' ++ B I = B (A4' ++ I) := B_app A4' I
              obtain ⟨A5, hA5⟩ : ∃ A5 : List UInt8, A4' ++ I = A5 := ⟨_, rfl⟩
              rw [hA5] at p5
              have HA5 : Hid (A4' ++ I = A5) := hA5
              clear hA5 hDn
              obtain ⟨z5, hz5⟩ : ∃ z5, (B A4').size = z5 := ⟨_, rfl⟩
              have hz5b : z5 ≤ 400 := by omega
              clear z4
              go_wp2_with (go_at_call 31; refine (c21 _ (bnx hA4 hB)).mono ?_; rintro r w6 ⟨rfl, hb6⟩; have hB6 := bnx (bnx hA4 hB) hb6)
              exact bodyPost_ret (v := .tuple #[.string (B A5), .int .i64 0]) (by simp only [results, Tryz.results10]; go_simp) rfl ⟨by rw [HTT.out, HF.out, HA1.out, HA2.out, HA3.out, HA4.out, HA5.out], hB6⟩
end
end Go.Proofs.YtplocajjfoiklaaGreatDoor
