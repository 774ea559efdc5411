/-
  Texts that the proof leans on, joined: Ng.
-/
import Derived.Test.YtplocajjfoiklaaGreatDoorL31
import Derived.Test.YtplocajjfoiklaaGreatDoorL29
import Derived.Test.YtplocajjfoiklaaGreatDoorL1
set_option linter.unusedVariables false
set_option linter.unusedSectionVars false
set_option linter.unusedSimpArgs false
set_option maxRecDepth 20000
namespace Go.Proofs.YtplocajjfoiklaaGreatDoor
open Go.RowKit

theorem ne_len {a b : List UInt8} (h : a ≠ []) (hl : a.length ≤ b.length) : b ≠ [] := fun e => by
  rw [e] at hl
  exact h (List.length_eq_zero_iff.1 (by simpa using hl))
attribute [local irreducible] W4
section
variable (n d k : Int) (w : World) (hT : Tab w) (hT10 : Tb10 w)
  (c8 : ∀ W, Below w.heap.size w W → Calls Tryz.prog 8 #[] W fun r w' => r = .returned (.bool true) ∧ Below W.heap.size W w')
include hT hT10 c8
set_option maxHeartbeats 2000000 in
theorem law11_7b (sg : Bool) (c14 : ∀ W, Calls Tryz.prog 14 #[.int .i64 n] W fun r w' => r = .returned (.bool false) ∧ W = w') :
    Calls Tryz.prog 7 #[.int .i64 n, .int .i64 d, .int .i8 k, .bool sg] w fun r w' => r = .returned (.bool true) ∧ Below w.heap.size w w' := by
  have hB : Below w.heap.size w w := Below.refl _ _
  go_enter Tryz.func7, Tryz.ntmps7
  go_wp2_with (first
    | (go_at_call 8; refine (c8 _ hB).mono ?_; rintro r w1 ⟨rfl, hb1⟩; replace hB := bnext hB hb1; clear hb1)
    | (go_at_call 14; refine (c14 _).mono ?_; rintro r w2 ⟨rfl, rfl⟩))
  go_ret
  exact ⟨rfl, hB⟩
set_option maxHeartbeats 2000000 in
theorem law11_7d (sg : Bool) (c14 : ∀ W, Calls Tryz.prog 14 #[.int .i64 n] W fun r w' => r = .returned (.bool true) ∧ W = w') (c15 : ∀ W, Calls Tryz.prog 15 #[.int .i64 d] W fun r w' => r = .returned (.bool false) ∧ W = w') :
    Calls Tryz.prog 7 #[.int .i64 n, .int .i64 d, .int .i8 k, .bool sg] w fun r w' => r = .returned (.bool true) ∧ Below w.heap.size w w' := by
  have hB : Below w.heap.size w w := Below.refl _ _
  go_enter Tryz.func7, Tryz.ntmps7
  go_wp2_with (first
    | (go_at_call 8; refine (c8 _ hB).mono ?_; rintro r w1 ⟨rfl, hb1⟩; replace hB := bnext hB hb1; clear hb1)
    | (go_at_call 14; refine (c14 _).mono ?_; rintro r w2 ⟨rfl, rfl⟩)
    | (go_at_call 15; refine (c15 _).mono ?_; rintro r w2 ⟨rfl, rfl⟩))
  go_ret
  exact ⟨rfl, hB⟩
variable (c14 : ∀ W, Calls Tryz.prog 14 #[.int .i64 n] W fun r w' => r = .returned (.bool true) ∧ W = w') (c15 : ∀ W, Calls Tryz.prog 15 #[.int .i64 d] W fun r w' => r = .returned (.bool true) ∧ W = w')
  (hk : -128 ≤ k ∧ k ≤ 127) (V : Nat) (F : Int)
include c14 c15 hk
set_option maxHeartbeats 8000000 in
theorem law11_7pu (hkp : 0 < k) (r1 : ∀ W, Tab W → Calls Tryz.prog 11 #[.int .i64 n, .int .i64 d, .string (B ((sgL false ++ [48, 120, 49, 112]) ++ Lib.itoa k))] W fun r w' => r = .returned (.tuple #[A4 V, .int .i64 F, .int .i64 0]) ∧ Below W.heap.size W w')
    (r2 : ∀ T : List UInt8, T.all dg = true → T ≠ [] → T.length ≤ 1000 → nv T = ((2 ^ k.natAbs : Nat) : Int) → ∀ W, Tab W → Tb10 W → Calls Tryz.prog 20 #[.int .i64 n, .int .i64 d, .string (B (((sgL false ++ T) ++ [101]) ++ Lib.itoa (0)))] W fun r w' => r = .returned (.tuple #[A4 V, .int .i64 F, .int .i64 0]) ∧ Below W.heap.size W w') :
    Calls Tryz.prog 7 #[.int .i64 n, .int .i64 d, .int .i8 k, .bool false] w fun r w' => r = .returned (.bool true) ∧ Below w.heap.size w w' := by
  have hB : Below w.heap.size w w := Below.refl _ _
  obtain ⟨M, hM⟩ : ∃ M, k.natAbs = M := ⟨_, rfl⟩
  rw [hM] at r2
  have hmx : max k (-k) = (M : Int) := by omega
  have hM8 : (M : Int) ≤ 128 := by omega
  have cD1 := fun W => decimal_v k (by omega) W
  have cD2 := fun W => decimal_v (0) (by omega) W
  have i1 := itoa_short (e := k) (by omega)
  have i2 := itoa_short (e := 0) (by omega)
  have hS : (⟨#[]⟩ : ByteArray) = B (sgL false) := rfl
  have hSl : (sgL false).length ≤ 1 := by decide
  obtain ⟨S, hSS⟩ : ∃ S, sgL false = S := ⟨_, rfl⟩
  rw [hSS] at r1 r2 hS hSl
  obtain ⟨sl, hsl⟩ : ∃ sl, S.length = sl := ⟨_, rfl⟩
  rw [hsl] at hSl
  have hsz : (B S).size = sl := by rw [B_size, hsl]
  have hsi : (sl : Int) ≤ 1 := by omega
  have p1 : B S ++ (⟨#[48, 120, 49, 112]⟩ : ByteArray) = B (S ++ [48, 120, 49, 112]) := B_app _ [48, 120, 49, 112]
  have z1 : (B (S ++ [48, 120, 49, 112])).size = sl + 4 := by rw [B_size, List.length_append, hsl]; rfl
  have p2 : B (S ++ [48, 120, 49, 112]) ++ B (Lib.itoa k) = B ((S ++ [48, 120, 49, 112]) ++ Lib.itoa k) := B_app _ _
  obtain ⟨l1, hl1⟩ : ∃ l1, (Lib.itoa k).length = l1 := ⟨_, rfl⟩
  rw [hl1] at i1
  have y1 : (B (Lib.itoa k)).size = l1 := by rw [B_size, hl1]
  have hl1i : (l1 : Int) ≤ 100 := by omega
  clear hl1 hM
  generalize Lib.itoa k = I1 at *
  generalize (S ++ [48, 120, 49, 112]) ++ I1 = A2 at *
  generalize S ++ [48, 120, 49, 112] = A1 at *
  have h24 := eq24 (W4 V 0) (W4 V 1) (W4 V 2) (W4 V 3) (W4 V 0) (W4 V 1) (W4 V 2) (W4 V 3)
  rw [show decide (W4 V 0 = W4 V 0 ∧ W4 V 1 = W4 V 1 ∧ W4 V 2 = W4 V 2 ∧ W4 V 3 = W4 V 3) = true by simp] at h24
  unfold A4 at r1 r2
  obtain ⟨hk1, hk2⟩ := hk
  go_enter Tryz.func7, Tryz.ntmps7
  go_upto_region 7 with (first
    | (go_at_call 8; refine (c8 _ hB).mono ?_; rintro r w1 ⟨rfl, hb1⟩; replace hB := bnext hB hb1; clear hb1)
    | (go_at_call 14; refine (c14 _).mono ?_; rintro r w2 ⟨rfl, rfl⟩)
    | (go_at_call 15; refine (c15 _).mono ?_; rintro r w2 ⟨rfl, rfl⟩))
  rw [hS]
  clear c8 c14 c15 hS
  go_wp2_with (first
    | (go_at_call 16; refine (cD1 _).mono ?_; rintro r w3 ⟨rfl, hb3⟩; replace hB := bnext hB hb3; clear hb3)
    | (go_at_call 11; refine (r1 _ (hT.go hB)).mono ?_; rintro r w4 ⟨rfl, hb4⟩; replace hB := bnext hB hb4; clear hb4))
  have hs4 := hB.size
  obtain ⟨wA, hwA⟩ : ∃ wA, w4.alloc (.cells #[.int .u64 (W4 V 0), .int .u64 (W4 V 1), .int .u64 (W4 V 2), .int .u64 (W4 V 3)] 24) = wA := ⟨_, rfl⟩
  have K : ∀ q, q < 4 → wA.cell? ⟨w4.heap.size, q, none⟩ = some (.int .u64 (W4 V q)) := by
    intro q hq
    rw [← hwA]
    have hor : q = 0 ∨ q = 1 ∨ q = 2 ∨ q = 3 := by omega
    rcases hor with rfl | rfl | rfl | rfl <;> simp
  have HBA : Below w.heap.size w wA := by rw [← hwA]; exact hB.alloc hs4 _
  have hszA : wA.heap.size = w4.heap.size + 1 := by rw [← hwA]; simp
  rw [hwA]
  go_loopw [14, 15, 16] (fun t14 t15 t16 wr => ∃ (i : Nat) (T : List UInt8), i ≤ M ∧ t16 = .int .i64 (i : Int) ∧ t14 = .string (B T) ∧ t15 = .int .i64 (0) ∧ T.all dg = true ∧ T ≠ [] ∧ T.length ≤ 1 + 3 * i ∧ nv T = ((2 ^ i : Nat) : Int) ∧ Below wA.heap.size wA wr) (fun _ _ t16 _ => M - (intOf t16).toNat)
  case atStart => exact ⟨0, [49], Nat.zero_le _, by go_num, rfl, by go_num, by decide, by decide, by decide, by decide, Below.refl _ _⟩
  case round =>
    obtain ⟨i, T, hi, rfl, rfl, rfl, hTd, hT0, hTl, hTv, hBr⟩ := hrel
    by_cases hlt : i < M
    · have hii : (i : Int) < M := by omega
      have HBr : Hid (Below wA.heap.size wA wr) := hBr
      have HVT : Hid (nv T = ((2 ^ i : Nat) : Int)) := hTv
      clear hBr hTv r1 r2 K HBA hwA cD1 cD2
      go_wp2_with (go_at_call 17; refine (doubled_v T _ (by omega) hTd hT0).mono ?_; rintro r w5 ⟨T1, rfl, hd1, hl1, hm1, hv1, hb5⟩; have HB5 : Hid (Below wA.heap.size wA w5) := bnext HBr.out hb5; have HR : Hid (T1.all dg = true ∧ T1.length ≤ T.length + 1 ∧ T.length ≤ T1.length ∧ nv T1 = 2 * nv T) := ⟨hd1, hl1, hm1, hv1⟩; clear hb5 hd1 hl1 hm1 hv1)
      go_roundw
      case rel =>
        obtain ⟨q1, q2, q3, q4⟩ := HR.out
        refine ⟨i + 1, T1, by omega, by go_num, rfl, by go_num, q1, ?_, by omega, ?_, HB5.out⟩
        · intro h
          rw [h] at q3
          exact hT0 (List.length_eq_zero_iff.1 (by simpa using q3))
        · rw [q4, HVT.out, Nat.pow_succ]
          omega
      case measure => simp [intOf]; omega
    · obtain rfl : i = M := by omega
      have rr := r2 T hTd hT0 (by omega) hTv
      obtain ⟨tl, htl⟩ : ∃ tl, T.length = tl := ⟨_, rfl⟩
      rw [htl] at hTl
      have zT : (B T).size = tl := by rw [B_size, htl]
      have hti : (tl : Int) ≤ 500 := by omega
      have s1 : B S ++ B T = B (S ++ T) := B_app _ _
      have zs1 : (B (S ++ T)).size = sl + tl := by rw [B_size, List.length_append, hsl, htl]
      have s2 : B (S ++ T) ++ (⟨#[101]⟩ : ByteArray) = B ((S ++ T) ++ [101]) := B_app _ [101]
      have zs2 : (B ((S ++ T) ++ [101])).size = sl + tl + 1 := by rw [B_size, List.length_append, List.length_append, hsl, htl]; rfl
      obtain ⟨l2, hl2⟩ : ∃ l2, (Lib.itoa (0)).length = l2 := ⟨_, rfl⟩
      rw [hl2] at i2
      have y2 : (B (Lib.itoa (0))).size = l2 := by rw [B_size, hl2]
      have hl2i : (l2 : Int) ≤ 100 := by omega
      have s3 : B ((S ++ T) ++ [101]) ++ B (Lib.itoa (0)) = B (((S ++ T) ++ [101]) ++ Lib.itoa (0)) := B_app _ _
      clear hTd hT0 hTv hlt hl2 htl r1 r2
      generalize Lib.itoa (0) = I2 at *
      generalize ((S ++ T) ++ [101]) ++ I2 = C3 at *
      generalize (S ++ T) ++ [101] = C2 at *
      generalize S ++ T = C1 at *
      have hBw := bnext HBA hBr
      have hsm := cell_set_map
      have k0 := (hBr.cell (p := ⟨w4.heap.size, 0, none⟩) (by show w4.heap.size < _; omega)).trans (K 0 (by omega))
      have k1 := (hBr.cell (p := ⟨w4.heap.size, 1, none⟩) (by show w4.heap.size < _; omega)).trans (K 1 (by omega))
      have k2 := (hBr.cell (p := ⟨w4.heap.size, 2, none⟩) (by show w4.heap.size < _; omega)).trans (K 2 (by omega))
      have k3 := (hBr.cell (p := ⟨w4.heap.size, 3, none⟩) (by show w4.heap.size < _; omega)).trans (K 3 (by omega))
      have hlr : w4.heap.size < wr.heap.size := by have := hBr.size; omega
      have HB0 : Hid (Below w.heap.size w wr) := hBw
      clear hBr K HBA hwA hszA hB
      go_wp2_with (first
        | (go_at_call 16; refine (cD2 _).mono ?_; rintro r w5 ⟨rfl, hb5⟩; obtain ⟨hc5, hf5⟩ := bcell hb5; have hl5 : w4.heap.size < w5.heap.size := Nat.lt_of_lt_of_le hlr hb5.size; have hB5 := bnext HB0.out hb5; clear hb5)
        | (go_at_call 20; refine (rr _ (hT.go hB5) (hT10.next hB5)).mono ?_; rintro r w6 ⟨rfl, hb6⟩; obtain ⟨hc6, hf6⟩ := bcell hb6; have hl6 : w4.heap.size < w6.heap.size := Nat.lt_of_lt_of_le hl5 hb6.size; have hB6 := bnext hB5 hb6; have hs6 := hB6.size; clear hb6))
      go_ret
      exact ⟨by simp, bgo⟩
set_option maxHeartbeats 8000000 in
theorem law11_7pl (hkp : ¬ 0 < k) (r1 : ∀ W, Tab W → Calls Tryz.prog 11 #[.int .i64 n, .int .i64 d, .string (B ((sgL false ++ [48, 120, 49, 112]) ++ Lib.itoa k))] W fun r w' => r = .returned (.tuple #[A4 V, .int .i64 F, .int .i64 0]) ∧ Below W.heap.size W w')
    (r2 : ∀ T : List UInt8, T.all dg = true → T ≠ [] → T.length ≤ 1000 → nv T = ((5 ^ k.natAbs : Nat) : Int) → ∀ W, Tab W → Tb10 W → Calls Tryz.prog 20 #[.int .i64 n, .int .i64 d, .string (B (((sgL false ++ T) ++ [101]) ++ Lib.itoa (-(k.natAbs : Int))))] W fun r w' => r = .returned (.tuple #[A4 V, .int .i64 F, .int .i64 0]) ∧ Below W.heap.size W w') :
    Calls Tryz.prog 7 #[.int .i64 n, .int .i64 d, .int .i8 k, .bool false] w fun r w' => r = .returned (.bool true) ∧ Below w.heap.size w w' := by
  have hB : Below w.heap.size w w := Below.refl _ _
  obtain ⟨M, hM⟩ : ∃ M, k.natAbs = M := ⟨_, rfl⟩
  rw [hM] at r2
  have hmx : max k (-k) = (M : Int) := by omega
  have hM8 : (M : Int) ≤ 128 := by omega
  have cD1 := fun W => decimal_v k (by omega) W
  have cD2 := fun W => decimal_v (-(M : Int)) (by omega) W
  have i1 := itoa_short (e := k) (by omega)
  have i2 := itoa_short (e := -(M : Int)) (by omega)
  have hS : (⟨#[]⟩ : ByteArray) = B (sgL false) := rfl
  have hSl : (sgL false).length ≤ 1 := by decide
  obtain ⟨S, hSS⟩ : ∃ S, sgL false = S := ⟨_, rfl⟩
  rw [hSS] at r1 r2 hS hSl
  obtain ⟨sl, hsl⟩ : ∃ sl, S.length = sl := ⟨_, rfl⟩
  rw [hsl] at hSl
  have hsz : (B S).size = sl := by rw [B_size, hsl]
  have hsi : (sl : Int) ≤ 1 := by omega
  have p1 : B S ++ (⟨#[48, 120, 49, 112]⟩ : ByteArray) = B (S ++ [48, 120, 49, 112]) := B_app _ [48, 120, 49, 112]
  have z1 : (B (S ++ [48, 120, 49, 112])).size = sl + 4 := by rw [B_size, List.length_append, hsl]; rfl
  have p2 : B (S ++ [48, 120, 49, 112]) ++ B (Lib.itoa k) = B ((S ++ [48, 120, 49, 112]) ++ Lib.itoa k) := B_app _ _
  obtain ⟨l1, hl1⟩ : ∃ l1, (Lib.itoa k).length = l1 := ⟨_, rfl⟩
  rw [hl1] at i1
  have y1 : (B (Lib.itoa k)).size = l1 := by rw [B_size, hl1]
  have hl1i : (l1 : Int) ≤ 100 := by omega
  clear hl1 hM
  generalize Lib.itoa k = I1 at *
  generalize (S ++ [48, 120, 49, 112]) ++ I1 = A2 at *
  generalize S ++ [48, 120, 49, 112] = A1 at *
  have h24 := eq24 (W4 V 0) (W4 V 1) (W4 V 2) (W4 V 3) (W4 V 0) (W4 V 1) (W4 V 2) (W4 V 3)
  rw [show decide (W4 V 0 = W4 V 0 ∧ W4 V 1 = W4 V 1 ∧ W4 V 2 = W4 V 2 ∧ W4 V 3 = W4 V 3) = true by simp] at h24
  unfold A4 at r1 r2
  obtain ⟨hk1, hk2⟩ := hk
  go_enter Tryz.func7, Tryz.ntmps7
  go_upto_region 7 with (first
    | (go_at_call 8; refine (c8 _ hB).mono ?_; rintro r w1 ⟨rfl, hb1⟩; replace hB := bnext hB hb1; clear hb1)
    | (go_at_call 14; refine (c14 _).mono ?_; rintro r w2 ⟨rfl, rfl⟩)
    | (go_at_call 15; refine (c15 _).mono ?_; rintro r w2 ⟨rfl, rfl⟩))
  rw [hS]
  clear c8 c14 c15 hS
  go_wp2_with (first
    | (go_at_call 16; refine (cD1 _).mono ?_; rintro r w3 ⟨rfl, hb3⟩; replace hB := bnext hB hb3; clear hb3)
    | (go_at_call 11; refine (r1 _ (hT.go hB)).mono ?_; rintro r w4 ⟨rfl, hb4⟩; replace hB := bnext hB hb4; clear hb4))
  have hs4 := hB.size
  obtain ⟨wA, hwA⟩ : ∃ wA, w4.alloc (.cells #[.int .u64 (W4 V 0), .int .u64 (W4 V 1), .int .u64 (W4 V 2), .int .u64 (W4 V 3)] 24) = wA := ⟨_, rfl⟩
  have K : ∀ q, q < 4 → wA.cell? ⟨w4.heap.size, q, none⟩ = some (.int .u64 (W4 V q)) := by
    intro q hq
    rw [← hwA]
    have hor : q = 0 ∨ q = 1 ∨ q = 2 ∨ q = 3 := by omega
    rcases hor with rfl | rfl | rfl | rfl <;> simp
  have HBA : Below w.heap.size w wA := by rw [← hwA]; exact hB.alloc hs4 _
  have hszA : wA.heap.size = w4.heap.size + 1 := by rw [← hwA]; simp
  rw [hwA]
  go_loopw [14, 15, 16] (fun t14 t15 t16 wr => ∃ (i : Nat) (T : List UInt8), i ≤ M ∧ t16 = .int .i64 (i : Int) ∧ t14 = .string (B T) ∧ t15 = .int .i64 (-(i : Int)) ∧ T.all dg = true ∧ T ≠ [] ∧ T.length ≤ 1 + 3 * i ∧ nv T = ((5 ^ i : Nat) : Int) ∧ Below wA.heap.size wA wr) (fun _ _ t16 _ => M - (intOf t16).toNat)
  case atStart => exact ⟨0, [49], Nat.zero_le _, by go_num, rfl, by go_num, by decide, by decide, by decide, by decide, Below.refl _ _⟩
  case round =>
    obtain ⟨i, T, hi, rfl, rfl, rfl, hTd, hT0, hTl, hTv, hBr⟩ := hrel
    by_cases hlt : i < M
    · have hii : (i : Int) < M := by omega
      have HBr : Hid (Below wA.heap.size wA wr) := hBr
      have HVT : Hid (nv T = ((5 ^ i : Nat) : Int)) := hTv
      clear hBr hTv r1 r2 K HBA hwA cD1 cD2
      go_wp2_with (first
        | (have hh := hd1; go_at_call 17; refine (doubled_v T1 _ (by omega) hd1 ht1).mono ?_; rintro r w6 ⟨T2, rfl, hd2, hl2, hm2, hv2, hb6⟩; have HB6 : Hid (Below wA.heap.size wA w6) := bnext HB5.out hb6; have ht2 : T2 ≠ [] := ne_len ht1 hm2; clear hb6)
        | (go_at_call 17; refine (doubled_v T _ (by omega) hTd hT0).mono ?_; rintro r w5 ⟨T1, rfl, hd1, hl1, hm1, hv1, hb5⟩; have HB5 : Hid (Below wA.heap.size wA w5) := bnext HBr.out hb5; have ht1 : T1 ≠ [] := ne_len hT0 hm1; clear hb5)
        | (go_at_call 19; refine (half_v T2 _ (by omega) hd2).mono ?_; rintro r w7 ⟨T3, rfl, hd3, hl3, hv3, hb7⟩; have HB7 : Hid (Below wA.heap.size wA w7) := bnext HB6.out hb7; clear hb7)
        | (go_at_call 18; refine (plus_v T2 T3 _ (by omega) hd2 (by omega) hd3).mono ?_; rintro r w8 ⟨T4, rfl, hd4, hl4, hm4, hv4, hb8⟩; have HB8 : Hid (Below wA.heap.size wA w8) := bnext HB7.out hb8; clear hb8))
      go_roundw
      case rel =>
        refine ⟨i + 1, T4, by omega, by go_num, rfl, by go_num, hd4, ne_len ht2 hm4, by omega, ?_, HB8.out⟩
        obtain ⟨rr, rr0, rr1, rr2⟩ := hv3
        rw [hv4, Nat.pow_succ, Int.natCast_mul, ← HVT.out]
        omega
      case measure => simp [intOf]; omega
    · obtain rfl : i = M := by omega
      have rr := r2 T hTd hT0 (by omega) hTv
      obtain ⟨tl, htl⟩ : ∃ tl, T.length = tl := ⟨_, rfl⟩
      rw [htl] at hTl
      have zT : (B T).size = tl := by rw [B_size, htl]
      have hti : (tl : Int) ≤ 500 := by omega
      have s1 : B S ++ B T = B (S ++ T) := B_app _ _
      have zs1 : (B (S ++ T)).size = sl + tl := by rw [B_size, List.length_append, hsl, htl]
      have s2 : B (S ++ T) ++ (⟨#[101]⟩ : ByteArray) = B ((S ++ T) ++ [101]) := B_app _ [101]
      have zs2 : (B ((S ++ T) ++ [101])).size = sl + tl + 1 := by rw [B_size, List.length_append, List.length_append, hsl, htl]; rfl
      obtain ⟨l2, hl2⟩ : ∃ l2, (Lib.itoa (-(i : Int))).length = l2 := ⟨_, rfl⟩
      rw [hl2] at i2
      have y2 : (B (Lib.itoa (-(i : Int)))).size = l2 := by rw [B_size, hl2]
      have hl2i : (l2 : Int) ≤ 100 := by omega
      have s3 : B ((S ++ T) ++ [101]) ++ B (Lib.itoa (-(i : Int))) = B (((S ++ T) ++ [101]) ++ Lib.itoa (-(i : Int))) := B_app _ _
      clear hTd hT0 hTv hlt hl2 htl r1 r2
      generalize Lib.itoa (-(i : Int)) = I2 at *
      generalize ((S ++ T) ++ [101]) ++ I2 = C3 at *
      generalize (S ++ T) ++ [101] = C2 at *
      generalize S ++ T = C1 at *
      have hBw := bnext HBA hBr
      have hsm := cell_set_map
      have k0 := (hBr.cell (p := ⟨w4.heap.size, 0, none⟩) (by show w4.heap.size < _; omega)).trans (K 0 (by omega))
      have k1 := (hBr.cell (p := ⟨w4.heap.size, 1, none⟩) (by show w4.heap.size < _; omega)).trans (K 1 (by omega))
      have k2 := (hBr.cell (p := ⟨w4.heap.size, 2, none⟩) (by show w4.heap.size < _; omega)).trans (K 2 (by omega))
      have k3 := (hBr.cell (p := ⟨w4.heap.size, 3, none⟩) (by show w4.heap.size < _; omega)).trans (K 3 (by omega))
      have hlr : w4.heap.size < wr.heap.size := by have := hBr.size; omega
      have HB0 : Hid (Below w.heap.size w wr) := hBw
      clear hBr K HBA hwA hszA hB
      go_wp2_with (first
        | (go_at_call 16; refine (cD2 _).mono ?_; rintro r w5 ⟨rfl, hb5⟩; obtain ⟨hc5, hf5⟩ := bcell hb5; have hl5 : w4.heap.size < w5.heap.size := Nat.lt_of_lt_of_le hlr hb5.size; have hB5 := bnext HB0.out hb5; clear hb5)
        | (go_at_call 20; refine (rr _ (hT.go hB5) (hT10.next hB5)).mono ?_; rintro r w6 ⟨rfl, hb6⟩; obtain ⟨hc6, hf6⟩ := bcell hb6; have hl6 : w4.heap.size < w6.heap.size := Nat.lt_of_lt_of_le hl5 hb6.size; have hB6 := bnext hB5 hb6; have hs6 := hB6.size; clear hb6))
      go_ret
      exact ⟨by simp, bgo⟩
set_option maxHeartbeats 8000000 in
theorem law11_7mu (hkp : 0 < k) (r1 : ∀ W, Tab W → Calls Tryz.prog 11 #[.int .i64 n, .int .i64 d, .string (B ((sgL true ++ [48, 120, 49, 112]) ++ Lib.itoa k))] W fun r w' => r = .returned (.tuple #[A4 V, .int .i64 F, .int .i64 0]) ∧ Below W.heap.size W w')
    (r2 : ∀ T : List UInt8, T.all dg = true → T ≠ [] → T.length ≤ 1000 → nv T = ((2 ^ k.natAbs : Nat) : Int) → ∀ W, Tab W → Tb10 W → Calls Tryz.prog 20 #[.int .i64 n, .int .i64 d, .string (B (((sgL true ++ T) ++ [101]) ++ Lib.itoa (0)))] W fun r w' => r = .returned (.tuple #[A4 V, .int .i64 F, .int .i64 0]) ∧ Below W.heap.size W w') :
    Calls Tryz.prog 7 #[.int .i64 n, .int .i64 d, .int .i8 k, .bool true] w fun r w' => r = .returned (.bool true) ∧ Below w.heap.size w w' := by
  have hB : Below w.heap.size w w := Below.refl _ _
  obtain ⟨M, hM⟩ : ∃ M, k.natAbs = M := ⟨_, rfl⟩
  rw [hM] at r2
  have hmx : max k (-k) = (M : Int) := by omega
  have hM8 : (M : Int) ≤ 128 := by omega
  have cD1 := fun W => decimal_v k (by omega) W
  have cD2 := fun W => decimal_v (0) (by omega) W
  have i1 := itoa_short (e := k) (by omega)
  have i2 := itoa_short (e := 0) (by omega)
  have hS : (⟨#[45]⟩ : ByteArray) = B (sgL true) := rfl
  have hSl : (sgL true).length ≤ 1 := by decide
  obtain ⟨S, hSS⟩ : ∃ S, sgL true = S := ⟨_, rfl⟩
  rw [hSS] at r1 r2 hS hSl
  obtain ⟨sl, hsl⟩ : ∃ sl, S.length = sl := ⟨_, rfl⟩
  rw [hsl] at hSl
  have hsz : (B S).size = sl := by rw [B_size, hsl]
  have hsi : (sl : Int) ≤ 1 := by omega
  have p1 : B S ++ (⟨#[48, 120, 49, 112]⟩ : ByteArray) = B (S ++ [48, 120, 49, 112]) := B_app _ [48, 120, 49, 112]
  have z1 : (B (S ++ [48, 120, 49, 112])).size = sl + 4 := by rw [B_size, List.length_append, hsl]; rfl
  have p2 : B (S ++ [48, 120, 49, 112]) ++ B (Lib.itoa k) = B ((S ++ [48, 120, 49, 112]) ++ Lib.itoa k) := B_app _ _
  obtain ⟨l1, hl1⟩ : ∃ l1, (Lib.itoa k).length = l1 := ⟨_, rfl⟩
  rw [hl1] at i1
  have y1 : (B (Lib.itoa k)).size = l1 := by rw [B_size, hl1]
  have hl1i : (l1 : Int) ≤ 100 := by omega
  clear hl1 hM
  generalize Lib.itoa k = I1 at *
  generalize (S ++ [48, 120, 49, 112]) ++ I1 = A2 at *
  generalize S ++ [48, 120, 49, 112] = A1 at *
  have h24 := eq24 (W4 V 0) (W4 V 1) (W4 V 2) (W4 V 3) (W4 V 0) (W4 V 1) (W4 V 2) (W4 V 3)
  rw [show decide (W4 V 0 = W4 V 0 ∧ W4 V 1 = W4 V 1 ∧ W4 V 2 = W4 V 2 ∧ W4 V 3 = W4 V 3) = true by simp] at h24
  unfold A4 at r1 r2
  obtain ⟨hk1, hk2⟩ := hk
  go_enter Tryz.func7, Tryz.ntmps7
  go_upto_region 7 with (first
    | (go_at_call 8; refine (c8 _ hB).mono ?_; rintro r w1 ⟨rfl, hb1⟩; replace hB := bnext hB hb1; clear hb1)
    | (go_at_call 14; refine (c14 _).mono ?_; rintro r w2 ⟨rfl, rfl⟩)
    | (go_at_call 15; refine (c15 _).mono ?_; rintro r w2 ⟨rfl, rfl⟩))
  rw [hS]
  clear c8 c14 c15 hS
  go_wp2_with (first
    | (go_at_call 16; refine (cD1 _).mono ?_; rintro r w3 ⟨rfl, hb3⟩; replace hB := bnext hB hb3; clear hb3)
    | (go_at_call 11; refine (r1 _ (hT.go hB)).mono ?_; rintro r w4 ⟨rfl, hb4⟩; replace hB := bnext hB hb4; clear hb4))
  have hs4 := hB.size
  obtain ⟨wA, hwA⟩ : ∃ wA, w4.alloc (.cells #[.int .u64 (W4 V 0), .int .u64 (W4 V 1), .int .u64 (W4 V 2), .int .u64 (W4 V 3)] 24) = wA := ⟨_, rfl⟩
  have K : ∀ q, q < 4 → wA.cell? ⟨w4.heap.size, q, none⟩ = some (.int .u64 (W4 V q)) := by
    intro q hq
    rw [← hwA]
    have hor : q = 0 ∨ q = 1 ∨ q = 2 ∨ q = 3 := by omega
    rcases hor with rfl | rfl | rfl | rfl <;> simp
  have HBA : Below w.heap.size w wA := by rw [← hwA]; exact hB.alloc hs4 _
  have hszA : wA.heap.size = w4.heap.size + 1 := by rw [← hwA]; simp
  rw [hwA]
  go_loopw [14, 15, 16] (fun t14 t15 t16 wr => ∃ (i : Nat) (T : List UInt8), i ≤ M ∧ t16 = .int .i64 (i : Int) ∧ t14 = .string (B T) ∧ t15 = .int .i64 (0) ∧ T.all dg = true ∧ T ≠ [] ∧ T.length ≤ 1 + 3 * i ∧ nv T = ((2 ^ i : Nat) : Int) ∧ Below wA.heap.size wA wr) (fun _ _ t16 _ => M - (intOf t16).toNat)
  case atStart => exact ⟨0, [49], Nat.zero_le _, by go_num, rfl, by go_num, by decide, by decide, by decide, by decide, Below.refl _ _⟩
  case round =>
    obtain ⟨i, T, hi, rfl, rfl, rfl, hTd, hT0, hTl, hTv, hBr⟩ := hrel
    by_cases hlt : i < M
    · have hii : (i : Int) < M := by omega
      have HBr : Hid (Below wA.heap.size wA wr) := hBr
      have HVT : Hid (nv T = ((2 ^ i : Nat) : Int)) := hTv
      clear hBr hTv r1 r2 K HBA hwA cD1 cD2
      go_wp2_with (go_at_call 17; refine (doubled_v T _ (by omega) hTd hT0).mono ?_; rintro r w5 ⟨T1, rfl, hd1, hl1, hm1, hv1, hb5⟩; have HB5 : Hid (Below wA.heap.size wA w5) := bnext HBr.out hb5; have HR : Hid (T1.all dg = true ∧ T1.length ≤ T.length + 1 ∧ T.length ≤ T1.length ∧ nv T1 = 2 * nv T) := ⟨hd1, hl1, hm1, hv1⟩; clear hb5 hd1 hl1 hm1 hv1)
      go_roundw
      case rel =>
        obtain ⟨q1, q2, q3, q4⟩ := HR.out
        refine ⟨i + 1, T1, by omega, by go_num, rfl, by go_num, q1, ?_, by omega, ?_, HB5.out⟩
        · intro h
          rw [h] at q3
          exact hT0 (List.length_eq_zero_iff.1 (by simpa using q3))
        · rw [q4, HVT.out, Nat.pow_succ]
          omega
      case measure => simp [intOf]; omega
    · obtain rfl : i = M := by omega
      have rr := r2 T hTd hT0 (by omega) hTv
      obtain ⟨tl, htl⟩ : ∃ tl, T.length = tl := ⟨_, rfl⟩
      rw [htl] at hTl
      have zT : (B T).size = tl := by rw [B_size, htl]
      have hti : (tl : Int) ≤ 500 := by omega
      have s1 : B S ++ B T = B (S ++ T) := B_app _ _
      have zs1 : (B (S ++ T)).size = sl + tl := by rw [B_size, List.length_append, hsl, htl]
      have s2 : B (S ++ T) ++ (⟨#[101]⟩ : ByteArray) = B ((S ++ T) ++ [101]) := B_app _ [101]
      have zs2 : (B ((S ++ T) ++ [101])).size = sl + tl + 1 := by rw [B_size, List.length_append, List.length_append, hsl, htl]; rfl
      obtain ⟨l2, hl2⟩ : ∃ l2, (Lib.itoa (0)).length = l2 := ⟨_, rfl⟩
      rw [hl2] at i2
      have y2 : (B (Lib.itoa (0))).size = l2 := by rw [B_size, hl2]
      have hl2i : (l2 : Int) ≤ 100 := by omega
      have s3 : B ((S ++ T) ++ [101]) ++ B (Lib.itoa (0)) = B (((S ++ T) ++ [101]) ++ Lib.itoa (0)) := B_app _ _
      clear hTd hT0 hTv hlt hl2 htl r1 r2
      generalize Lib.itoa (0) = I2 at *
      generalize ((S ++ T) ++ [101]) ++ I2 = C3 at *
      generalize (S ++ T) ++ [101] = C2 at *
      generalize S ++ T = C1 at *
      have hBw := bnext HBA hBr
      have hsm := cell_set_map
      have k0 := (hBr.cell (p := ⟨w4.heap.size, 0, none⟩) (by show w4.heap.size < _; omega)).trans (K 0 (by omega))
      have k1 := (hBr.cell (p := ⟨w4.heap.size, 1, none⟩) (by show w4.heap.size < _; omega)).trans (K 1 (by omega))
      have k2 := (hBr.cell (p := ⟨w4.heap.size, 2, none⟩) (by show w4.heap.size < _; omega)).trans (K 2 (by omega))
      have k3 := (hBr.cell (p := ⟨w4.heap.size, 3, none⟩) (by show w4.heap.size < _; omega)).trans (K 3 (by omega))
      have hlr : w4.heap.size < wr.heap.size := by have := hBr.size; omega
      have HB0 : Hid (Below w.heap.size w wr) := hBw
      clear hBr K HBA hwA hszA hB
      go_wp2_with (first
        | (go_at_call 16; refine (cD2 _).mono ?_; rintro r w5 ⟨rfl, hb5⟩; obtain ⟨hc5, hf5⟩ := bcell hb5; have hl5 : w4.heap.size < w5.heap.size := Nat.lt_of_lt_of_le hlr hb5.size; have hB5 := bnext HB0.out hb5; clear hb5)
        | (go_at_call 20; refine (rr _ (hT.go hB5) (hT10.next hB5)).mono ?_; rintro r w6 ⟨rfl, hb6⟩; obtain ⟨hc6, hf6⟩ := bcell hb6; have hl6 : w4.heap.size < w6.heap.size := Nat.lt_of_lt_of_le hl5 hb6.size; have hB6 := bnext hB5 hb6; have hs6 := hB6.size; clear hb6))
      go_ret
      exact ⟨by simp, bgo⟩
set_option maxHeartbeats 8000000 in
theorem law11_7ml (hkp : ¬ 0 < k) (r1 : ∀ W, Tab W → Calls Tryz.prog 11 #[.int .i64 n, .int .i64 d, .string (B ((sgL true ++ [48, 120, 49, 112]) ++ Lib.itoa k))] W fun r w' => r = .returned (.tuple #[A4 V, .int .i64 F, .int .i64 0]) ∧ Below W.heap.size W w')
    (r2 : ∀ T : List UInt8, T.all dg = true → T ≠ [] → T.length ≤ 1000 → nv T = ((5 ^ k.natAbs : Nat) : Int) → ∀ W, Tab W → Tb10 W → Calls Tryz.prog 20 #[.int .i64 n, .int .i64 d, .string (B (((sgL true ++ T) ++ [101]) ++ Lib.itoa (-(k.natAbs : Int))))] W fun r w' => r = .returned (.tuple #[A4 V, .int .i64 F, .int .i64 0]) ∧ Below W.heap.size W w') :
    Calls Tryz.prog 7 #[.int .i64 n, .int .i64 d, .int .i8 k, .bool true] w fun r w' => r = .returned (.bool true) ∧ Below w.heap.size w w' := by
  have hB : Below w.heap.size w w := Below.refl _ _
  obtain ⟨M, hM⟩ : ∃ M, k.natAbs = M := ⟨_, rfl⟩
  rw [hM] at r2
  have hmx : max k (-k) = (M : Int) := by omega
  have hM8 : (M : Int) ≤ 128 := by omega
  have cD1 := fun W => decimal_v k (by omega) W
  have cD2 := fun W => decimal_v (-(M : Int)) (by omega) W
  have i1 := itoa_short (e := k) (by omega)
  have i2 := itoa_short (e := -(M : Int)) (by omega)
  have hS : (⟨#[45]⟩ : ByteArray) = B (sgL true) := rfl
  have hSl : (sgL true).length ≤ 1 := by decide
  obtain ⟨S, hSS⟩ : ∃ S, sgL true = S := ⟨_, rfl⟩
  rw [hSS] at r1 r2 hS hSl
  obtain ⟨sl, hsl⟩ : ∃ sl, S.length = sl := ⟨_, rfl⟩
  rw [hsl] at hSl
  have hsz : (B S).size = sl := by rw [B_size, hsl]
  have hsi : (sl : Int) ≤ 1 := by omega
  have p1 : B S ++ (⟨#[48, 120, 49, 112]⟩ : ByteArray) = B (S ++ [48, 120, 49, 112]) := B_app _ [48, 120, 49, 112]
  have z1 : (B (S ++ [48, 120, 49, 112])).size = sl + 4 := by rw [B_size, List.length_append, hsl]; rfl
  have p2 : B (S ++ [48, 120, 49, 112]) ++ B (Lib.itoa k) = B ((S ++ [48, 120, 49, 112]) ++ Lib.itoa k) := B_app _ _
  obtain ⟨l1, hl1⟩ : ∃ l1, (Lib.itoa k).length = l1 := ⟨_, rfl⟩
  rw [hl1] at i1
  have y1 : (B (Lib.itoa k)).size = l1 := by rw [B_size, hl1]
  have hl1i : (l1 : Int) ≤ 100 := by omega
  clear hl1 hM
  generalize Lib.itoa k = I1 at *
  generalize (S ++ [48, 120, 49, 112]) ++ I1 = A2 at *
  generalize S ++ [48, 120, 49, 112] = A1 at *
  have h24 := eq24 (W4 V 0) (W4 V 1) (W4 V 2) (W4 V 3) (W4 V 0) (W4 V 1) (W4 V 2) (W4 V 3)
  rw [show decide (W4 V 0 = W4 V 0 ∧ W4 V 1 = W4 V 1 ∧ W4 V 2 = W4 V 2 ∧ W4 V 3 = W4 V 3) = true by simp] at h24
  unfold A4 at r1 r2
  obtain ⟨hk1, hk2⟩ := hk
  go_enter Tryz.func7, Tryz.ntmps7
  go_upto_region 7 with (first
    | (go_at_call 8; refine (c8 _ hB).mono ?_; rintro r w1 ⟨rfl, hb1⟩; replace hB := bnext hB hb1; clear hb1)
    | (go_at_call 14; refine (c14 _).mono ?_; rintro r w2 ⟨rfl, rfl⟩)
    | (go_at_call 15; refine (c15 _).mono ?_; rintro r w2 ⟨rfl, rfl⟩))
  rw [hS]
  clear c8 c14 c15 hS
  go_wp2_with (first
    | (go_at_call 16; refine (cD1 _).mono ?_; rintro r w3 ⟨rfl, hb3⟩; replace hB := bnext hB hb3; clear hb3)
    | (go_at_call 11; refine (r1 _ (hT.go hB)).mono ?_; rintro r w4 ⟨rfl, hb4⟩; replace hB := bnext hB hb4; clear hb4))
  have hs4 := hB.size
  obtain ⟨wA, hwA⟩ : ∃ wA, w4.alloc (.cells #[.int .u64 (W4 V 0), .int .u64 (W4 V 1), .int .u64 (W4 V 2), .int .u64 (W4 V 3)] 24) = wA := ⟨_, rfl⟩
  have K : ∀ q, q < 4 → wA.cell? ⟨w4.heap.size, q, none⟩ = some (.int .u64 (W4 V q)) := by
    intro q hq
    rw [← hwA]
    have hor : q = 0 ∨ q = 1 ∨ q = 2 ∨ q = 3 := by omega
    rcases hor with rfl | rfl | rfl | rfl <;> simp
  have HBA : Below w.heap.size w wA := by rw [← hwA]; exact hB.alloc hs4 _
  have hszA : wA.heap.size = w4.heap.size + 1 := by rw [← hwA]; simp
  rw [hwA]
  go_loopw [14, 15, 16] (fun t14 t15 t16 wr => ∃ (i : Nat) (T : List UInt8), i ≤ M ∧ t16 = .int .i64 (i : Int) ∧ t14 = .string (B T) ∧ t15 = .int .i64 (-(i : Int)) ∧ T.all dg = true ∧ T ≠ [] ∧ T.length ≤ 1 + 3 * i ∧ nv T = ((5 ^ i : Nat) : Int) ∧ Below wA.heap.size wA wr) (fun _ _ t16 _ => M - (intOf t16).toNat)
  case atStart => exact ⟨0, [49], Nat.zero_le _, by go_num, rfl, by go_num, by decide, by decide, by decide, by decide, Below.refl _ _⟩
  case round =>
    obtain ⟨i, T, hi, rfl, rfl, rfl, hTd, hT0, hTl, hTv, hBr⟩ := hrel
    by_cases hlt : i < M
    · have hii : (i : Int) < M := by omega
      have HBr : Hid (Below wA.heap.size wA wr) := hBr
      have HVT : Hid (nv T = ((5 ^ i : Nat) : Int)) := hTv
      clear hBr hTv r1 r2 K HBA hwA cD1 cD2
      go_wp2_with (first
        | (have hh := hd1; go_at_call 17; refine (doubled_v T1 _ (by omega) hd1 ht1).mono ?_; rintro r w6 ⟨T2, rfl, hd2, hl2, hm2, hv2, hb6⟩; have HB6 : Hid (Below wA.heap.size wA w6) := bnext HB5.out hb6; have ht2 : T2 ≠ [] := ne_len ht1 hm2; clear hb6)
        | (go_at_call 17; refine (doubled_v T _ (by omega) hTd hT0).mono ?_; rintro r w5 ⟨T1, rfl, hd1, hl1, hm1, hv1, hb5⟩; have HB5 : Hid (Below wA.heap.size wA w5) := bnext HBr.out hb5; have ht1 : T1 ≠ [] := ne_len hT0 hm1; clear hb5)
        | (go_at_call 19; refine (half_v T2 _ (by omega) hd2).mono ?_; rintro r w7 ⟨T3, rfl, hd3, hl3, hv3, hb7⟩; have HB7 : Hid (Below wA.heap.size wA w7) := bnext HB6.out hb7; clear hb7)
        | (go_at_call 18; refine (plus_v T2 T3 _ (by omega) hd2 (by omega) hd3).mono ?_; rintro r w8 ⟨T4, rfl, hd4, hl4, hm4, hv4, hb8⟩; have HB8 : Hid (Below wA.heap.size wA w8) := bnext HB7.out hb8; clear hb8))
      go_roundw
      case rel =>
        refine ⟨i + 1, T4, by omega, by go_num, rfl, by go_num, hd4, ne_len ht2 hm4, by omega, ?_, HB8.out⟩
        obtain ⟨rr, rr0, rr1, rr2⟩ := hv3
        rw [hv4, Nat.pow_succ, Int.natCast_mul, ← HVT.out]
        omega
      case measure => simp [intOf]; omega
    · obtain rfl : i = M := by omega
      have rr := r2 T hTd hT0 (by omega) hTv
      obtain ⟨tl, htl⟩ : ∃ tl, T.length = tl := ⟨_, rfl⟩
      rw [htl] at hTl
      have zT : (B T).size = tl := by rw [B_size, htl]
      have hti : (tl : Int) ≤ 500 := by omega
      have s1 : B S ++ B T = B (S ++ T) := B_app _ _
      have zs1 : (B (S ++ T)).size = sl + tl := by rw [B_size, List.length_append, hsl, htl]
      have s2 : B (S ++ T) ++ (⟨#[101]⟩ : ByteArray) = B ((S ++ T) ++ [101]) := B_app _ [101]
      have zs2 : (B ((S ++ T) ++ [101])).size = sl + tl + 1 := by rw [B_size, List.length_append, List.length_append, hsl, htl]; rfl
      obtain ⟨l2, hl2⟩ : ∃ l2, (Lib.itoa (-(i : Int))).length = l2 := ⟨_, rfl⟩
      rw [hl2] at i2
      have y2 : (B (Lib.itoa (-(i : Int)))).size = l2 := by rw [B_size, hl2]
      have hl2i : (l2 : Int) ≤ 100 := by omega
      have s3 : B ((S ++ T) ++ [101]) ++ B (Lib.itoa (-(i : Int))) = B (((S ++ T) ++ [101]) ++ Lib.itoa (-(i : Int))) := B_app _ _
      clear hTd hT0 hTv hlt hl2 htl r1 r2
      generalize Lib.itoa (-(i : Int)) = I2 at *
      generalize ((S ++ T) ++ [101]) ++ I2 = C3 at *
      generalize (S ++ T) ++ [101] = C2 at *
      generalize S ++ T = C1 at *
      have hBw := bnext HBA hBr
      have hsm := cell_set_map
      have k0 := (hBr.cell (p := ⟨w4.heap.size, 0, none⟩) (by show w4.heap.size < _; omega)).trans (K 0 (by omega))
      have k1 := (hBr.cell (p := ⟨w4.heap.size, 1, none⟩) (by show w4.heap.size < _; omega)).trans (K 1 (by omega))
      have k2 := (hBr.cell (p := ⟨w4.heap.size, 2, none⟩) (by show w4.heap.size < _; omega)).trans (K 2 (by omega))
      have k3 := (hBr.cell (p := ⟨w4.heap.size, 3, none⟩) (by show w4.heap.size < _; omega)).trans (K 3 (by omega))
      have hlr : w4.heap.size < wr.heap.size := by have := hBr.size; omega
      have HB0 : Hid (Below w.heap.size w wr) := hBw
      clear hBr K HBA hwA hszA hB
      go_wp2_with (first
        | (go_at_call 16; refine (cD2 _).mono ?_; rintro r w5 ⟨rfl, hb5⟩; obtain ⟨hc5, hf5⟩ := bcell hb5; have hl5 : w4.heap.size < w5.heap.size := Nat.lt_of_lt_of_le hlr hb5.size; have hB5 := bnext HB0.out hb5; clear hb5)
        | (go_at_call 20; refine (rr _ (hT.go hB5) (hT10.next hB5)).mono ?_; rintro r w6 ⟨rfl, hb6⟩; obtain ⟨hc6, hf6⟩ := bcell hb6; have hl6 : w4.heap.size < w6.heap.size := Nat.lt_of_lt_of_le hl5 hb6.size; have hB6 := bnext hB5 hb6; have hs6 := hB6.size; clear hb6))
      go_ret
      exact ⟨by simp, bgo⟩
end
theorem hexformAgrees_any (n d k : Int) (sg : Bool) (w : World) (hT : Tab w) (hT10 : Tb10 w) (hTZ : TbZ w) (hk : -128 ≤ k ∧ k ≤ 127) :
    Calls Tryz.prog 7 #[.int .i64 n, .int .i64 d, .int .i8 k, .bool sg] w fun r w' => r = .returned (.bool true) ∧ Below w.heap.size w w' := by
  have c8 := fun W (hW : Below w.heap.size w W) => awake11 W (hT.go hW) (hT10.next hW) (hTZ.next hW)
  have c14 : ∀ W, Calls Tryz.prog 14 #[.int .i64 n] W fun r w' => r = .returned (.bool (decide (binN n))) ∧ W = w' := fun W => (rbinary_any n W).mono fun r w' ⟨h1, h2⟩ => ⟨h1, h2.symm⟩
  have c15 := fun W => rdir_any d W
  by_cases hb : binN n
  · rw [decide_eq_true hb] at c14
    by_cases hd : knB d
    · rw [decide_eq_true hd] at c15
      have r1 := fun W (h : Tab W) => ag_hex (n := n) (d := d) sg (k := k) (by omega) hb hd W h
      have lens : ∀ (T : List UInt8) (e : Int), -100000 ≤ e ∧ e ≤ 100000 → T.length ≤ 1000 → (sgL sg ++ (T ++ 101 :: Lib.itoa e)).length ≤ 3001 := fun T e he hl => by
        have h1 := itoa_short he
        have h2 : (sgL sg).length ≤ 1 := by cases sg <;> decide
        rw [List.length_append, List.length_append, List.length_cons]
        omega
      have eqT : ∀ (T : List UInt8) (e : Int), ((sgL sg ++ T) ++ [101]) ++ Lib.itoa e = sgL sg ++ (T ++ 101 :: Lib.itoa e) := fun T e => by simp
      by_cases hkp : 0 < k
      · have r2 : ∀ T : List UInt8, T.all dg = true → T ≠ [] → T.length ≤ 1000 → nv T = ((2 ^ k.natAbs : Nat) : Int) → ∀ W, Tab W → Tb10 W → Calls Tryz.prog 20 #[.int .i64 n, .int .i64 d, .string (B (((sgL sg ++ T) ++ [101]) ++ Lib.itoa 0))] W fun r w' => r = .returned (.tuple #[A4 (rdV n d sg 1 1 k), .int .i64 (rdF n d sg 1 1 k), .int .i64 0]) ∧ Below W.heap.size W w' := fun T h1 h2 h3 h4 W h5 h6 => by
          rw [eqT]
          have := read_v (n := n) (d := d) hb hd (cut_pl sg h1 h2 h3 (e := 0) (by decide)) (lens T 0 (by decide) h3) W h5 h6
          obtain ⟨m1, m2⟩ := ag_pos (n := n) (d := d) sg (k := k.natAbs) h1 h3 h4
          rw [m1, m2, show ((k.natAbs : Nat) : Int) = k by omega] at this
          exact this
        cases sg
        · exact law11_7pu n d k w hT hT10 c8 c14 c15 hk _ _ hkp r1 r2
        · exact law11_7mu n d k w hT hT10 c8 c14 c15 hk _ _ hkp r1 r2
      · have r2 : ∀ T : List UInt8, T.all dg = true → T ≠ [] → T.length ≤ 1000 → nv T = ((5 ^ k.natAbs : Nat) : Int) → ∀ W, Tab W → Tb10 W → Calls Tryz.prog 20 #[.int .i64 n, .int .i64 d, .string (B (((sgL sg ++ T) ++ [101]) ++ Lib.itoa (-(k.natAbs : Int))))] W fun r w' => r = .returned (.tuple #[A4 (rdV n d sg 1 1 k), .int .i64 (rdF n d sg 1 1 k), .int .i64 0]) ∧ Below W.heap.size W w' := fun T h1 h2 h3 h4 W h5 h6 => by
          rw [eqT]
          have := read_v (n := n) (d := d) hb hd (cut_pl sg h1 h2 h3 (e := -(k.natAbs : Int)) (by omega)) (lens T _ (by omega) h3) W h5 h6
          obtain ⟨m1, m2⟩ := ag_neg (n := n) (d := d) sg (j := k.natAbs) (by omega) h1 h3 h4
          rw [m1, m2, show -((k.natAbs : Nat) : Int) = k by omega] at this
          rw [show -((k.natAbs : Nat) : Int) = k by omega]
          exact this
        cases sg
        · exact law11_7pl n d k w hT hT10 c8 c14 c15 hk _ _ hkp r1 r2
        · exact law11_7ml n d k w hT hT10 c8 c14 c15 hk _ _ hkp r1 r2
    · rw [decide_eq_false hd] at c15
      exact law11_7d n d k w hT hT10 c8 sg c14 c15
  · rw [decide_eq_false hb] at c14
    exact law11_7b n d k w hT hT10 c8 sg c14
end Go.Proofs.YtplocajjfoiklaaGreatDoor
