/-
  Texts that the proof leans on, joined: Mx, Lift, Lk, Lz, Sh8.
-/
import Derived.Test.YtplocajjfoiklaaGreatDoorL29
import Derived.Test.YtplocajjfoiklaaGreatDoorL1
import Derived.Test.YtplocajjfoiklaaGreatDoorL28
import Derived.ProofKit
import Derived.OpenShut
import Derived.Carry
import Derived.Deep.DeepHandedRow
import Derived.Test.YtplocajjfoiklaaGreatDoorL16
import Derived.Test.YtplocajjfoiklaaGreatDoorL20
import Derived.Test.YtplocajjfoiklaaGreatDoorRows
import Derived.LaidLaws
import Derived.ChangeMaps5
import Derived.Test.YtplocajjfoiklaaGreatDoorL27
import Derived.Test.YtplocajjfoiklaaGreatDoorL24
import Derived.Test.YtplocajjfoiklaaGreatDoorL18
import Derived.Test.YtplocajjfoiklaaGreatDoorL19
import Derived.Test.YtplocajjfoiklaaGreatDoorL25
set_option linter.unusedVariables false
set_option linter.unusedSectionVars false
set_option linter.unusedSimpArgs false
set_option maxRecDepth 20000
namespace Go.Proofs.YtplocajjfoiklaaGreatDoor
open Go.RowKit

attribute [local irreducible] W4
section
variable (n d : Int) (Z : Nat) (e : Int) (nt : Nat) (w : World) (hT : Tab w)
  (c8 : ∀ W, Below w.heap.size w W → Calls Tryz.prog 8 #[] W fun r w' => r = .returned (.bool true) ∧ Below W.heap.size W w')
  (c14 : ∀ W, Calls Tryz.prog 14 #[.int .i64 n] W fun r w' => r = .returned (.bool true) ∧ W = w') (c15 : ∀ W, Calls Tryz.prog 15 #[.int .i64 d] W fun r w' => r = .returned (.bool true) ∧ W = w')
  (hZ : Z < 2 ^ 64) (hn : nt < 256) (he : -32768 ≤ e ∧ e ≤ 32767) (V : Nat) (F : Int)
include hT c8 c14 c15 hZ hn he
set_option maxHeartbeats 8000000 in
theorem law11_6s (r1 : ∀ W, Tab W → Calls Tryz.prog 11 #[.int .i64 n, .int .i64 d, .string (B (mvT1 false Z e))] W fun r w' => r = .returned (.tuple #[A4 V, .int .i64 F, .int .i64 0]) ∧ Below W.heap.size W w') (r2 : ∀ W, Tab W → Calls Tryz.prog 11 #[.int .i64 n, .int .i64 d, .string (B (mvT2 false Z (nt % 12) e))] W fun r w' => r = .returned (.tuple #[A4 V, .int .i64 F, .int .i64 0]) ∧ Below W.heap.size W w') (r3 : ∀ W, Tab W → Calls Tryz.prog 11 #[.int .i64 n, .int .i64 d, .string (B (mvT3 false Z e))] W fun r w' => r = .returned (.tuple #[A4 V, .int .i64 F, .int .i64 0]) ∧ Below W.heap.size W w') :
    Calls Tryz.prog 6 #[.int .i64 n, .int .i64 d, .int .u64 (Z : Int), .int .i16 e, .int .u8 (nt : Int), .bool false] w fun r w' => r = .returned (.bool true) ∧ Below w.heap.size w w' := by
  have hB : Below w.heap.size w w := Below.refl _ _
  obtain ⟨k, hk⟩ : ∃ k, nt % 12 = k := ⟨_, rfl⟩
  rw [hk] at r2
  have hki : (nt : Int) % 12 = (k : Int) := by omega
  have hk12 : (k : Int) < 12 := by omega
  have hnti : (nt : Int) ≤ 255 := by omega
  have HA : Hid (∀ v, v < 16 → ((⟨#[48, 49, 50, 51, 52, 53, 54, 55, 56, 57, 97, 98, 99, 100, 101, 102]⟩ : ByteArray).extract v 16).size = 16 - v ∧ ((⟨#[48, 49, 50, 51, 52, 53, 54, 55, 56, 57, 97, 98, 99, 100, 101, 102]⟩ : ByteArray).extract v 16).extract 0 1 = B [upB false (hxd v)]) := fun v hv => all_ext false hv
  have hAs : (⟨#[48, 49, 50, 51, 52, 53, 54, 55, 56, 57, 97, 98, 99, 100, 101, 102]⟩ : ByteArray).size = 16 := rfl
  have HX : Hid ((⟨#[48, 120]⟩ : ByteArray) = B (mvX false)) := rfl
  have hXs : (⟨#[48, 120]⟩ : ByteArray).size = 2 := rfl
  have HN : Hid (∀ i, i < 16 → bits BinOp.and IntKind.u64 ((Z : Int) / 2 ^ (60 - 4 * i)) 15 = ((Z / 16 ^ (15 - i) % 16 : Nat) : Int)) := fun i hi => nib_u Z i hZ hi
  have HU : Hid (∀ i, i < 16 → (mvL false Z).take (i + 1) = (mvL false Z).take i ++ [upB false (hxd (Z / 16 ^ (15 - i) % 16))]) := fun i hi => mvL_next false Z hi
  have HUl : Hid ((mvL false Z).length = 16) := mvL_len false Z
  have HZ : Hid ((Z : Int) ≤ 18446744073709551615) := by show _ ≤ _; omega
  unfold mvT1 at r1
  unfold mvT2 at r2
  unfold mvT3 at r3
  obtain ⟨U, hU⟩ : ∃ U, mvL false Z = U := ⟨_, rfl⟩
  rw [hU] at r1 r2 r3 HU HUl
  clear hk hU
  go_enter Tryz.func6, Tryz.ntmps6
  go_wp2_with (first
    | (go_at_call 8; refine (c8 _ hB).mono ?_; rintro r w1 ⟨rfl, hb1⟩; replace hB := bnext hB hb1; clear hb1)
    | (go_at_call 14; refine (c14 _).mono ?_; rintro r w2 ⟨rfl, rfl⟩)
    | (go_at_call 15; refine (c15 _).mono ?_; rintro r w2 ⟨rfl, rfl⟩))
  clear c8 c14 c15
  generalize (⟨#[48, 49, 50, 51, 52, 53, 54, 55, 56, 57, 97, 98, 99, 100, 101, 102]⟩ : ByteArray) = bA at *
  generalize (⟨#[48, 120]⟩ : ByteArray) = bX at *
  go_loop [15, 16, 18, 42] (fun t15 t16 _ t42 => ∃ i : Nat, i ≤ 16 ∧ t42 = .int .i64 (i : Int) ∧ t15 = .string (B (U.take i)) ∧ t16 = .string (B ((U.take i).drop 1))) (fun _ _ _ t42 => 16 - (intOf t42).toNat)
  case atStart => exact ⟨0, Nat.zero_le _, by go_num, rfl, rfl⟩
  case round =>
    obtain ⟨i, hi, rfl, rfl, rfl⟩ := hrel
    by_cases hlt : i < 16
    · obtain ⟨v, hv⟩ : ∃ v, Z / 16 ^ (15 - i) % 16 = v := ⟨_, rfl⟩
      have hv16 : v < 16 := by rw [← hv]; exact Nat.mod_lt _ (by decide)
      obtain ⟨sh, hsh⟩ : ∃ sh, 60 - 4 * i = sh := ⟨_, rfl⟩
      have hnib := HN.out i hlt
      rw [hv, hsh] at hnib
      have hnx := HU.out i hlt
      rw [hv] at hnx
      obtain ⟨u, hu⟩ : ∃ u, upB false (hxd v) = u := ⟨_, rfl⟩
      obtain ⟨x1, x2⟩ := HA.out v hv16
      rw [hu] at hnx x2
      have hul := HUl.out
      have hshi : (60 : Int) - 4 * (i : Int) = (sh : Int) := by omega
      have hsh6 : (sh : Int) ≤ 60 := by omega
      have hii : (i : Int) < 16 := by omega
      have hvi : (v : Int) < 16 := by omega
      have hz64 := HZ.out
      have p0 : B (U.take i) ++ B [u] = B (U.take (i + 1)) := by rw [B_app, hnx]
      have z0 : (B (U.take i)).size = i := by rw [B_size, List.length_take, hul]; omega
      have z1 : (B (U.take (i + 1))).size = i + 1 := by rw [B_size, List.length_take, hul]; omega
      have zu : (B [u]).size = 1 := rfl
      have y0 : (B ((U.take i).drop 1)).size = i - 1 := by rw [B_size, List.length_drop, List.length_take, hul]; omega
      obtain ⟨m, hm⟩ : ∃ m, 16 - v = m := ⟨_, rfl⟩
      rw [hm] at x1
      have hm1 : 1 ≤ (m : Int) := by omega
      have hm2 : (m : Int) ≤ 16 := by omega
      by_cases h0 : i = 0
      · have HP : Hid ((U.take (i + 1)).drop 1 = (U.take i).drop 1) := by show _ = _; rw [hnx, h0]; rfl
        have hnp : ¬ 0 < (i : Int) := by omega
        clear hv hsh hu hm hnx hul h0 y0
        generalize hL1 : U.take (i + 1) = L1 at *
        generalize U.take i = L0 at *
        go_wp2
        go_round
        case rel => exact ⟨i + 1, by omega, by go_num, by rw [hL1], by rw [hL1, HP.out]⟩
        case measure => simp [intOf]; omega
      · obtain ⟨i', hi'⟩ : ∃ i', i = i' + 1 := ⟨i - 1, by omega⟩
        have hpos : 0 < (i : Int) := by omega
        have x3 : (B (U.take (i + 1))).extract i (i + 1) = B [u] := by
          have := B_drop (U.take (i + 1)) i
          rw [z1] at this
          rw [this, hnx]
          congr 1
          have hl : (U.take i).length = i := by rw [List.length_take, hul]; omega
          rw [List.drop_append_of_le_length (by omega), List.drop_eq_nil_of_le (by omega)]
          rfl
        have p1 : B ((U.take i).drop 1) ++ B [u] = B ((U.take (i + 1)).drop 1) := by
          rw [B_app, hnx, List.drop_append_of_le_length (by rw [List.length_take, hul]; omega)]
        have hi1 : ((i - 1 : Nat) : Int) = (i : Int) - 1 := by omega
        obtain ⟨i1, hi1'⟩ : ∃ i1, i - 1 = i1 := ⟨_, rfl⟩
        rw [hi1'] at y0
        have hi1b : (i1 : Int) ≤ 16 := by omega
        clear hv hsh hu hm hnx hul hi1 hi1' hi'
        generalize hL1 : U.take (i + 1) = L1 at *
        generalize hL0 : U.take i = L0 at *
        generalize hM1 : L1.drop 1 = M1 at *
        generalize L0.drop 1 = M0 at *
        go_wp2
        go_round
        case rel => exact ⟨i + 1, by omega, by go_num, by rw [hL1], by rw [hL1, hM1]⟩
        case measure => simp [intOf]; omega
    · obtain rfl : i = 16 := by omega
      have hul := HUl.out
      have ht : U.take 16 = U := List.take_of_length_le (by omega)
      rw [ht]
      clear HA HN HU hlt
      go_wp2
      go_loop [17, 67] (fun t17 t67 => ∃ j : Nat, j ≤ k ∧ t67 = .int .u8 (j : Int) ∧ t17 = .string (B (List.replicate j 48))) (fun _ t67 => k - (intOf t67).toNat)
      case atStart => exact ⟨0, Nat.zero_le _, by go_num, rfl⟩
      case round =>
        obtain ⟨j, hj, rfl, rfl⟩ := hrel
        have zj : (B (List.replicate j 48)).size = j := by rw [B_size, List.length_replicate]
        by_cases hjl : j < k
        · have hji : (j : Int) < k := by omega
          have p0 : B (List.replicate j 48) ++ (⟨#[48]⟩ : ByteArray) = B (List.replicate (j + 1) 48) := by
            rw [show (⟨#[48]⟩ : ByteArray) = B [48] from rfl, B_app, List.replicate_succ']
          generalize hR : List.replicate (j + 1) (48 : UInt8) = R1 at *
          generalize List.replicate j (48 : UInt8) = R0 at *
          go_wp2
          go_round
          case rel => exact ⟨j + 1, by omega, by go_num, by rw [hR]⟩
          case measure => simp [intOf]; omega
        · obtain rfl : j = k := by omega
          have hXX := HX.out
          subst hXX
          clear HX HUl HZ hjl
          have i1 := itoa_short (e := e) (by omega)
          have i2 := itoa_short (e := e + 60) (by omega)
          have i3 := itoa_short (e := e + 64) (by omega)
          have cD1 := fun W => decimal_v e (by omega) W
          have cD2 := fun W => decimal_v (e + 60) (by omega) W
          have cD3 := fun W => decimal_v (e + 64) (by omega) W
          obtain ⟨l1, hl1⟩ : ∃ l1, (Lib.itoa e).length = l1 := ⟨_, rfl⟩
          obtain ⟨l2, hl2⟩ : ∃ l2, (Lib.itoa (e + 60)).length = l2 := ⟨_, rfl⟩
          obtain ⟨l3, hl3⟩ : ∃ l3, (Lib.itoa (e + 64)).length = l3 := ⟨_, rfl⟩
          rw [hl1] at i1
          rw [hl2] at i2
          rw [hl3] at i3
          have y1 : (B (Lib.itoa e)).size = l1 := by rw [B_size, hl1]
          have y2 : (B (Lib.itoa (e + 60))).size = l2 := by rw [B_size, hl2]
          have y3 : (B (Lib.itoa (e + 64))).size = l3 := by rw [B_size, hl3]
          clear hl1 hl2 hl3
          generalize Lib.itoa e = I1 at *
          generalize Lib.itoa (e + 60) = I2 at *
          generalize Lib.itoa (e + 64) = I3 at *
          have hxl : (mvX false).length = 2 := rfl
          have hU1 : (U.take 1).length = 1 := by rw [List.length_take, hul]; decide
          rw [show U.drop 1 = U.tail from List.drop_one] at r2
          have hU15 : U.tail.length = 15 := by rw [List.length_tail, hul]
          have hRl : (List.replicate j (48 : UInt8)).length = j := List.length_replicate
          have xu : (B U).size = 16 := by rw [B_size, hul]
          have xt : (B U).extract 0 1 = B (U.take 1) := by rw [B_ext, List.drop_zero]
          have x1 : (B (U.take 1)).size = 1 := by rw [B_size, hU1]
          have x15 : (B U.tail).size = 15 := by rw [B_size, hU15]
          generalize mvX false = X at *
          generalize List.replicate j (48 : UInt8) = R at *
          generalize U.take 1 = U1 at *
          generalize U.tail = U2 at *
          have s1 : B X ++ B U = B (X ++ U) := B_app _ _
          have zs1 : (B (X ++ U)).size = 18 := by rw [B_size, List.length_append, hxl, hul]
          have s2 : B (X ++ U) ++ (⟨#[112]⟩ : ByteArray) = B ((X ++ U) ++ [112]) := B_app _ [112]
          have zs2 : (B ((X ++ U) ++ [112])).size = 19 := by rw [B_size, List.length_append, List.length_append, hxl, hul]; rfl
          have s3 : B ((X ++ U) ++ [112]) ++ B I1 = B (((X ++ U) ++ [112]) ++ I1) := B_app _ _
          have t1 : B X ++ B R = B (X ++ R) := B_app _ _
          have zt1 : (B (X ++ R)).size = j + 2 := by rw [B_size, List.length_append, hxl, hRl]; omega
          have t2 : B (X ++ R) ++ B U1 = B ((X ++ R) ++ U1) := B_app _ _
          have zt2 : (B ((X ++ R) ++ U1)).size = j + 3 := by rw [B_size] at zt1 ⊢; rw [List.length_append, zt1, hU1]
          have t3 : B ((X ++ R) ++ U1) ++ (⟨#[46]⟩ : ByteArray) = B (((X ++ R) ++ U1) ++ [46]) := B_app _ [46]
          have zt3 : (B (((X ++ R) ++ U1) ++ [46])).size = j + 4 := by rw [B_size] at zt2 ⊢; rw [List.length_append, zt2]; rfl
          have t4 : B (((X ++ R) ++ U1) ++ [46]) ++ B U2 = B ((((X ++ R) ++ U1) ++ [46]) ++ U2) := B_app _ _
          have zt4 : (B ((((X ++ R) ++ U1) ++ [46]) ++ U2)).size = j + 19 := by rw [B_size] at zt3 ⊢; rw [List.length_append, zt3, hU15]
          have t5 : B ((((X ++ R) ++ U1) ++ [46]) ++ U2) ++ B R = B (((((X ++ R) ++ U1) ++ [46]) ++ U2) ++ R) := B_app _ _
          have zt5 : (B (((((X ++ R) ++ U1) ++ [46]) ++ U2) ++ R)).size = j + 19 + j := by rw [B_size] at zt4 ⊢; rw [List.length_append, zt4, hRl]
          have t6 : B (((((X ++ R) ++ U1) ++ [46]) ++ U2) ++ R) ++ (⟨#[80]⟩ : ByteArray) = B ((((((X ++ R) ++ U1) ++ [46]) ++ U2) ++ R) ++ [80]) := B_app _ [80]
          have zt6 : (B ((((((X ++ R) ++ U1) ++ [46]) ++ U2) ++ R) ++ [80])).size = j + 19 + j + 1 := by rw [B_size] at zt5 ⊢; rw [List.length_append, zt5]; rfl
          have t7 : B ((((((X ++ R) ++ U1) ++ [46]) ++ U2) ++ R) ++ [80]) ++ B I2 = B (((((((X ++ R) ++ U1) ++ [46]) ++ U2) ++ R) ++ [80]) ++ I2) := B_app _ _
          have v1 : (⟨#[48, 120, 46]⟩ : ByteArray) ++ B U = B ([48, 120, 46] ++ U) := B_app [48, 120, 46] U
          have zv1 : (B ([48, 120, 46] ++ U)).size = 19 := by rw [B_size, List.length_append, hul]; rfl
          have v2 : B ([48, 120, 46] ++ U) ++ (⟨#[112]⟩ : ByteArray) = B (([48, 120, 46] ++ U) ++ [112]) := B_app _ [112]
          have zv2 : (B (([48, 120, 46] ++ U) ++ [112])).size = 20 := by rw [B_size, List.length_append, List.length_append, hul]; rfl
          have v3 : B (([48, 120, 46] ++ U) ++ [112]) ++ B I3 = B ((([48, 120, 46] ++ U) ++ [112]) ++ I3) := B_app _ _
          generalize ((X ++ U) ++ [112]) ++ I1 = A3 at *
          generalize (X ++ U) ++ [112] = A2 at *
          generalize X ++ U = A1 at *
          generalize (((((((X ++ R) ++ U1) ++ [46]) ++ U2) ++ R) ++ [80]) ++ I2) = C7 at *
          generalize ((((((X ++ R) ++ U1) ++ [46]) ++ U2) ++ R) ++ [80]) = C6 at *
          generalize (((((X ++ R) ++ U1) ++ [46]) ++ U2) ++ R) = C5 at *
          generalize ((((X ++ R) ++ U1) ++ [46]) ++ U2) = C4 at *
          generalize (((X ++ R) ++ U1) ++ [46]) = C3 at *
          generalize ((X ++ R) ++ U1) = C2 at *
          generalize (X ++ R) = C1 at *
          generalize (([48, 120, 46] ++ U) ++ [112]) ++ I3 = D3 at *
          generalize ([48, 120, 46] ++ U) ++ [112] = D2 at *
          generalize ([48, 120, 46] ++ U : List UInt8) = D1 at *
          have hxs : (B X).size = 2 := by rw [B_size, hxl]
          have hRs : (B R).size = j := by rw [B_size, hRl]
          have hl1i : (l1 : Int) ≤ 100 := by omega
          have hl2i : (l2 : Int) ≤ 100 := by omega
          have hl3i : (l3 : Int) ≤ 100 := by omega
          obtain ⟨he1, he2⟩ := he
          have h24 := eq24 (W4 V 0) (W4 V 1) (W4 V 2) (W4 V 3) (W4 V 0) (W4 V 1) (W4 V 2) (W4 V 3)
          rw [show decide (W4 V 0 = W4 V 0 ∧ W4 V 1 = W4 V 1 ∧ W4 V 2 = W4 V 2 ∧ W4 V 3 = W4 V 3) = true by simp] at h24
          have hsm := cell_set_map
          unfold A4 at r1 r2 r3
          clear hxl hU1 hU15 hRl hul ht zj hZ hn i1 i2 i3
          go_upto_region 20 with (first
            | (go_at_call 16; refine (cD1 _).mono ?_; rintro r w3 ⟨rfl, hb3⟩; obtain ⟨hc3, hf3⟩ := bcell hb3; have hA3 := bnext (w0 := w) bgo hb3; have hs3 := hA3.size; clear hb3)
            | (go_at_call 11; refine (r1 _ (hT.go bgo)).mono ?_; rintro r w4 ⟨rfl, hb4⟩; obtain ⟨hc4, hf4⟩ := bcell hb4; have hA4 := bnext (w0 := w) bgo hb4; have hs4 := hA4.size; clear hb4))
          have hw4 := hs4
          have HBA : Below w.heap.size w (w4.alloc (.cells #[.int .u64 (W4 V 0), .int .u64 (W4 V 1), .int .u64 (W4 V 2), .int .u64 (W4 V 3)] 24)) := bgo
          refine wp_made 20 24 22 #[.int .u64 0, .int .u64 0, .int .u64 0, .int .u64 0] (by kernel_rfl) (by kernel_rfl) (by kernel_rfl) rfl (fun oa hoa a w => ?_) (by kernel_rfl) (by kernel_rfl) rfl rfl (fun _ _ d _ _ h => by cases d <;> exact h) ?_
          · cases hoa; exact ⟨24, by simp [go_sem]⟩
          apply Exists.intro
          refine ⟨fun al hne hcell => ?_, fun w5 hb5 => ?_, fun g w5 hb5 hg0 hg1 hg2 hg3 => ?_⟩
          · simp only [List.take_succ_cons, List.take_zero]
            repeat go_big_quiet_step (fail)
            go_big_quiet_step ((go_at_call 16; exact calls_wd _ al_next (cD2 _)))
            repeat go_big_quiet_step (fail)
            go_big_quiet_step ((go_at_call 11; exact calls_wd _ al_next (r2 _ (hT.go (bnext HBA (al_below (Wd.h _)))))))
            exact wpQuiet_nil rfl
          · simp only [List.drop_succ_cons, List.drop_zero]
            obtain ⟨hc5, hf5⟩ := bcell hb5; have hz5_0 : w4.heap.size < w5.heap.size := lt_below hb5 ltg; have hl5_0 := Nat.le_of_lt hz5_0; have hA5 := bnext (w0 := w) bgo hb5; have hs5 := hA5.size; clear hb5
            go_wp2_with (first
              | (go_at_call 16; refine (cD3 _).mono ?_; rintro r w6 ⟨rfl, hb6⟩; obtain ⟨hc6, hf6⟩ := bcell hb6; have hz6_0 : w4.heap.size < w6.heap.size := lt_below hb6 ltg; have hl6_0 := Nat.le_of_lt hz6_0; have hz6_1 : w5.heap.size < w6.heap.size := lt_below hb6 ltg; have hl6_1 := Nat.le_of_lt hz6_1; have hA6 := bnext (w0 := w) bgo hb6; have hs6 := hA6.size; clear hb6)
              | (go_at_call 11; refine (r3 _ (hT.go bgo)).mono ?_; rintro r w7 ⟨rfl, hb7⟩; obtain ⟨hc7, hf7⟩ := bcell hb7; have hz7_0 : w4.heap.size < w7.heap.size := lt_below hb7 ltg; have hl7_0 := Nat.le_of_lt hz7_0; have hz7_1 : w5.heap.size < w7.heap.size := lt_below hb7 ltg; have hl7_1 := Nat.le_of_lt hz7_1; have hA7 := bnext (w0 := w) bgo hb7; have hs7 := hA7.size; clear hb7))
            go_ret
            exact ⟨by simp, bgo⟩
          · simp only [List.drop_succ_cons, List.drop_zero, Nat.reduceSub, List.eraseIdx_cons_succ, List.eraseIdx_cons_zero]
            have hz0 : g ≠ w4.heap.size := by have := hg0; simp at this; omega
            have hgg : w4.heap.size < g := by have := hg0; simp at this; omega
            have q0 : w5.cell? ⟨g, 0, none⟩ = some (.int .u64 0) := hg2 0
            have q1 : w5.cell? ⟨g, 1, none⟩ = some (.int .u64 0) := hg2 1
            have q2 : w5.cell? ⟨g, 2, none⟩ = some (.int .u64 0) := hg2 2
            have q3 : w5.cell? ⟨g, 3, none⟩ = some (.int .u64 0) := hg2 3
            have f0 := hg3 0
            have f1 := hg3 1
            have f2 := hg3 2
            have f3 := hg3 3
            clear hg2 hg3
            obtain ⟨hc5, hf5⟩ := bcell hb5; have hz5_0 : w4.heap.size < w5.heap.size := lt_below hb5 ltg; have hl5_0 := Nat.le_of_lt hz5_0; have hA5 := bnext (w0 := w) bgo hb5; have hs5 := hA5.size; clear hb5
            have hgw : w.heap.size ≤ g := by omega
            go_wp2_with (first
              | (go_at_call 16; refine (cD3 _).mono ?_; rintro r w6 ⟨rfl, hb6⟩; obtain ⟨hc6, hf6⟩ := bcell hb6; have hz6_0 : w4.heap.size < w6.heap.size := lt_below hb6 ltg; have hl6_0 := Nat.le_of_lt hz6_0; have hz6_1 : g < w6.heap.size := lt_below hb6 ltg; have hl6_1 := Nat.le_of_lt hz6_1; have hA6 := bnext (w0 := w) bgo hb6; have hs6 := hA6.size; clear hb6)
              | (go_at_call 11; refine (r3 _ (hT.go bgo)).mono ?_; rintro r w7 ⟨rfl, hb7⟩; obtain ⟨hc7, hf7⟩ := bcell hb7; have hz7_0 : w4.heap.size < w7.heap.size := lt_below hb7 ltg; have hl7_0 := Nat.le_of_lt hz7_0; have hz7_1 : g < w7.heap.size := lt_below hb7 ltg; have hl7_1 := Nat.le_of_lt hz7_1; have hA7 := bnext (w0 := w) bgo hb7; have hs7 := hA7.size; clear hb7))
            go_ret
            exact ⟨by simp, bgo⟩
set_option maxHeartbeats 8000000 in
theorem law11_6g (r1 : ∀ W, Tab W → Calls Tryz.prog 11 #[.int .i64 n, .int .i64 d, .string (B (mvT1 true Z e))] W fun r w' => r = .returned (.tuple #[A4 V, .int .i64 F, .int .i64 0]) ∧ Below W.heap.size W w') (r2 : ∀ W, Tab W → Calls Tryz.prog 11 #[.int .i64 n, .int .i64 d, .string (B (mvT2 true Z (nt % 12) e))] W fun r w' => r = .returned (.tuple #[A4 V, .int .i64 F, .int .i64 0]) ∧ Below W.heap.size W w') (r3 : ∀ W, Tab W → Calls Tryz.prog 11 #[.int .i64 n, .int .i64 d, .string (B (mvT3 true Z e))] W fun r w' => r = .returned (.tuple #[A4 V, .int .i64 F, .int .i64 0]) ∧ Below W.heap.size W w') :
    Calls Tryz.prog 6 #[.int .i64 n, .int .i64 d, .int .u64 (Z : Int), .int .i16 e, .int .u8 (nt : Int), .bool true] w fun r w' => r = .returned (.bool true) ∧ Below w.heap.size w w' := by
  have hB : Below w.heap.size w w := Below.refl _ _
  obtain ⟨k, hk⟩ : ∃ k, nt % 12 = k := ⟨_, rfl⟩
  rw [hk] at r2
  have hki : (nt : Int) % 12 = (k : Int) := by omega
  have hk12 : (k : Int) < 12 := by omega
  have hnti : (nt : Int) ≤ 255 := by omega
  have HA : Hid (∀ v, v < 16 → ((⟨#[48, 49, 50, 51, 52, 53, 54, 55, 56, 57, 65, 66, 67, 68, 69, 70]⟩ : ByteArray).extract v 16).size = 16 - v ∧ ((⟨#[48, 49, 50, 51, 52, 53, 54, 55, 56, 57, 65, 66, 67, 68, 69, 70]⟩ : ByteArray).extract v 16).extract 0 1 = B [upB true (hxd v)]) := fun v hv => all_ext true hv
  have hAs : (⟨#[48, 49, 50, 51, 52, 53, 54, 55, 56, 57, 65, 66, 67, 68, 69, 70]⟩ : ByteArray).size = 16 := rfl
  have HX : Hid ((⟨#[48, 88]⟩ : ByteArray) = B (mvX true)) := rfl
  have hXs : (⟨#[48, 88]⟩ : ByteArray).size = 2 := rfl
  have HN : Hid (∀ i, i < 16 → bits BinOp.and IntKind.u64 ((Z : Int) / 2 ^ (60 - 4 * i)) 15 = ((Z / 16 ^ (15 - i) % 16 : Nat) : Int)) := fun i hi => nib_u Z i hZ hi
  have HU : Hid (∀ i, i < 16 → (mvL true Z).take (i + 1) = (mvL true Z).take i ++ [upB true (hxd (Z / 16 ^ (15 - i) % 16))]) := fun i hi => mvL_next true Z hi
  have HUl : Hid ((mvL true Z).length = 16) := mvL_len true Z
  have HZ : Hid ((Z : Int) ≤ 18446744073709551615) := by show _ ≤ _; omega
  unfold mvT1 at r1
  unfold mvT2 at r2
  unfold mvT3 at r3
  obtain ⟨U, hU⟩ : ∃ U, mvL true Z = U := ⟨_, rfl⟩
  rw [hU] at r1 r2 r3 HU HUl
  clear hk hU
  go_enter Tryz.func6, Tryz.ntmps6
  go_wp2_with (first
    | (go_at_call 8; refine (c8 _ hB).mono ?_; rintro r w1 ⟨rfl, hb1⟩; replace hB := bnext hB hb1; clear hb1)
    | (go_at_call 14; refine (c14 _).mono ?_; rintro r w2 ⟨rfl, rfl⟩)
    | (go_at_call 15; refine (c15 _).mono ?_; rintro r w2 ⟨rfl, rfl⟩))
  clear c8 c14 c15
  generalize (⟨#[48, 49, 50, 51, 52, 53, 54, 55, 56, 57, 65, 66, 67, 68, 69, 70]⟩ : ByteArray) = bA at *
  generalize (⟨#[48, 88]⟩ : ByteArray) = bX at *
  go_loop [15, 16, 18, 42] (fun t15 t16 _ t42 => ∃ i : Nat, i ≤ 16 ∧ t42 = .int .i64 (i : Int) ∧ t15 = .string (B (U.take i)) ∧ t16 = .string (B ((U.take i).drop 1))) (fun _ _ _ t42 => 16 - (intOf t42).toNat)
  case atStart => exact ⟨0, Nat.zero_le _, by go_num, rfl, rfl⟩
  case round =>
    obtain ⟨i, hi, rfl, rfl, rfl⟩ := hrel
    by_cases hlt : i < 16
    · obtain ⟨v, hv⟩ : ∃ v, Z / 16 ^ (15 - i) % 16 = v := ⟨_, rfl⟩
      have hv16 : v < 16 := by rw [← hv]; exact Nat.mod_lt _ (by decide)
      obtain ⟨sh, hsh⟩ : ∃ sh, 60 - 4 * i = sh := ⟨_, rfl⟩
      have hnib := HN.out i hlt
      rw [hv, hsh] at hnib
      have hnx := HU.out i hlt
      rw [hv] at hnx
      obtain ⟨u, hu⟩ : ∃ u, upB true (hxd v) = u := ⟨_, rfl⟩
      obtain ⟨x1, x2⟩ := HA.out v hv16
      rw [hu] at hnx x2
      have hul := HUl.out
      have hshi : (60 : Int) - 4 * (i : Int) = (sh : Int) := by omega
      have hsh6 : (sh : Int) ≤ 60 := by omega
      have hii : (i : Int) < 16 := by omega
      have hvi : (v : Int) < 16 := by omega
      have hz64 := HZ.out
      have p0 : B (U.take i) ++ B [u] = B (U.take (i + 1)) := by rw [B_app, hnx]
      have z0 : (B (U.take i)).size = i := by rw [B_size, List.length_take, hul]; omega
      have z1 : (B (U.take (i + 1))).size = i + 1 := by rw [B_size, List.length_take, hul]; omega
      have zu : (B [u]).size = 1 := rfl
      have y0 : (B ((U.take i).drop 1)).size = i - 1 := by rw [B_size, List.length_drop, List.length_take, hul]; omega
      obtain ⟨m, hm⟩ : ∃ m, 16 - v = m := ⟨_, rfl⟩
      rw [hm] at x1
      have hm1 : 1 ≤ (m : Int) := by omega
      have hm2 : (m : Int) ≤ 16 := by omega
      by_cases h0 : i = 0
      · have HP : Hid ((U.take (i + 1)).drop 1 = (U.take i).drop 1) := by show _ = _; rw [hnx, h0]; rfl
        have hnp : ¬ 0 < (i : Int) := by omega
        clear hv hsh hu hm hnx hul h0 y0
        generalize hL1 : U.take (i + 1) = L1 at *
        generalize U.take i = L0 at *
        go_wp2
        go_round
        case rel => exact ⟨i + 1, by omega, by go_num, by rw [hL1], by rw [hL1, HP.out]⟩
        case measure => simp [intOf]; omega
      · obtain ⟨i', hi'⟩ : ∃ i', i = i' + 1 := ⟨i - 1, by omega⟩
        have hpos : 0 < (i : Int) := by omega
        have x3 : (B (U.take (i + 1))).extract i (i + 1) = B [u] := by
          have := B_drop (U.take (i + 1)) i
          rw [z1] at this
          rw [this, hnx]
          congr 1
          have hl : (U.take i).length = i := by rw [List.length_take, hul]; omega
          rw [List.drop_append_of_le_length (by omega), List.drop_eq_nil_of_le (by omega)]
          rfl
        have p1 : B ((U.take i).drop 1) ++ B [u] = B ((U.take (i + 1)).drop 1) := by
          rw [B_app, hnx, List.drop_append_of_le_length (by rw [List.length_take, hul]; omega)]
        have hi1 : ((i - 1 : Nat) : Int) = (i : Int) - 1 := by omega
        obtain ⟨i1, hi1'⟩ : ∃ i1, i - 1 = i1 := ⟨_, rfl⟩
        rw [hi1'] at y0
        have hi1b : (i1 : Int) ≤ 16 := by omega
        clear hv hsh hu hm hnx hul hi1 hi1' hi'
        generalize hL1 : U.take (i + 1) = L1 at *
        generalize hL0 : U.take i = L0 at *
        generalize hM1 : L1.drop 1 = M1 at *
        generalize L0.drop 1 = M0 at *
        go_wp2
        go_round
        case rel => exact ⟨i + 1, by omega, by go_num, by rw [hL1], by rw [hL1, hM1]⟩
        case measure => simp [intOf]; omega
    · obtain rfl : i = 16 := by omega
      have hul := HUl.out
      have ht : U.take 16 = U := List.take_of_length_le (by omega)
      rw [ht]
      clear HA HN HU hlt
      go_wp2
      go_loop [17, 67] (fun t17 t67 => ∃ j : Nat, j ≤ k ∧ t67 = .int .u8 (j : Int) ∧ t17 = .string (B (List.replicate j 48))) (fun _ t67 => k - (intOf t67).toNat)
      case atStart => exact ⟨0, Nat.zero_le _, by go_num, rfl⟩
      case round =>
        obtain ⟨j, hj, rfl, rfl⟩ := hrel
        have zj : (B (List.replicate j 48)).size = j := by rw [B_size, List.length_replicate]
        by_cases hjl : j < k
        · have hji : (j : Int) < k := by omega
          have p0 : B (List.replicate j 48) ++ (⟨#[48]⟩ : ByteArray) = B (List.replicate (j + 1) 48) := by
            rw [show (⟨#[48]⟩ : ByteArray) = B [48] from rfl, B_app, List.replicate_succ']
          generalize hR : List.replicate (j + 1) (48 : UInt8) = R1 at *
          generalize List.replicate j (48 : UInt8) = R0 at *
          go_wp2
          go_round
          case rel => exact ⟨j + 1, by omega, by go_num, by rw [hR]⟩
          case measure => simp [intOf]; omega
        · obtain rfl : j = k := by omega
          have hXX := HX.out
          subst hXX
          clear HX HUl HZ hjl
          have i1 := itoa_short (e := e) (by omega)
          have i2 := itoa_short (e := e + 60) (by omega)
          have i3 := itoa_short (e := e + 64) (by omega)
          have cD1 := fun W => decimal_v e (by omega) W
          have cD2 := fun W => decimal_v (e + 60) (by omega) W
          have cD3 := fun W => decimal_v (e + 64) (by omega) W
          obtain ⟨l1, hl1⟩ : ∃ l1, (Lib.itoa e).length = l1 := ⟨_, rfl⟩
          obtain ⟨l2, hl2⟩ : ∃ l2, (Lib.itoa (e + 60)).length = l2 := ⟨_, rfl⟩
          obtain ⟨l3, hl3⟩ : ∃ l3, (Lib.itoa (e + 64)).length = l3 := ⟨_, rfl⟩
          rw [hl1] at i1
          rw [hl2] at i2
          rw [hl3] at i3
          have y1 : (B (Lib.itoa e)).size = l1 := by rw [B_size, hl1]
          have y2 : (B (Lib.itoa (e + 60))).size = l2 := by rw [B_size, hl2]
          have y3 : (B (Lib.itoa (e + 64))).size = l3 := by rw [B_size, hl3]
          clear hl1 hl2 hl3
          generalize Lib.itoa e = I1 at *
          generalize Lib.itoa (e + 60) = I2 at *
          generalize Lib.itoa (e + 64) = I3 at *
          have hxl : (mvX true).length = 2 := rfl
          have hU1 : (U.take 1).length = 1 := by rw [List.length_take, hul]; decide
          rw [show U.drop 1 = U.tail from List.drop_one] at r2
          have hU15 : U.tail.length = 15 := by rw [List.length_tail, hul]
          have hRl : (List.replicate j (48 : UInt8)).length = j := List.length_replicate
          have xu : (B U).size = 16 := by rw [B_size, hul]
          have xt : (B U).extract 0 1 = B (U.take 1) := by rw [B_ext, List.drop_zero]
          have x1 : (B (U.take 1)).size = 1 := by rw [B_size, hU1]
          have x15 : (B U.tail).size = 15 := by rw [B_size, hU15]
          generalize mvX true = X at *
          generalize List.replicate j (48 : UInt8) = R at *
          generalize U.take 1 = U1 at *
          generalize U.tail = U2 at *
          have s1 : B X ++ B U = B (X ++ U) := B_app _ _
          have zs1 : (B (X ++ U)).size = 18 := by rw [B_size, List.length_append, hxl, hul]
          have s2 : B (X ++ U) ++ (⟨#[112]⟩ : ByteArray) = B ((X ++ U) ++ [112]) := B_app _ [112]
          have zs2 : (B ((X ++ U) ++ [112])).size = 19 := by rw [B_size, List.length_append, List.length_append, hxl, hul]; rfl
          have s3 : B ((X ++ U) ++ [112]) ++ B I1 = B (((X ++ U) ++ [112]) ++ I1) := B_app _ _
          have t1 : B X ++ B R = B (X ++ R) := B_app _ _
          have zt1 : (B (X ++ R)).size = j + 2 := by rw [B_size, List.length_append, hxl, hRl]; omega
          have t2 : B (X ++ R) ++ B U1 = B ((X ++ R) ++ U1) := B_app _ _
          have zt2 : (B ((X ++ R) ++ U1)).size = j + 3 := by rw [B_size] at zt1 ⊢; rw [List.length_append, zt1, hU1]
          have t3 : B ((X ++ R) ++ U1) ++ (⟨#[46]⟩ : ByteArray) = B (((X ++ R) ++ U1) ++ [46]) := B_app _ [46]
          have zt3 : (B (((X ++ R) ++ U1) ++ [46])).size = j + 4 := by rw [B_size] at zt2 ⊢; rw [List.length_append, zt2]; rfl
          have t4 : B (((X ++ R) ++ U1) ++ [46]) ++ B U2 = B ((((X ++ R) ++ U1) ++ [46]) ++ U2) := B_app _ _
          have zt4 : (B ((((X ++ R) ++ U1) ++ [46]) ++ U2)).size = j + 19 := by rw [B_size] at zt3 ⊢; rw [List.length_append, zt3, hU15]
          have t5 : B ((((X ++ R) ++ U1) ++ [46]) ++ U2) ++ B R = B (((((X ++ R) ++ U1) ++ [46]) ++ U2) ++ R) := B_app _ _
          have zt5 : (B (((((X ++ R) ++ U1) ++ [46]) ++ U2) ++ R)).size = j + 19 + j := by rw [B_size] at zt4 ⊢; rw [List.length_append, zt4, hRl]
          have t6 : B (((((X ++ R) ++ U1) ++ [46]) ++ U2) ++ R) ++ (⟨#[80]⟩ : ByteArray) = B ((((((X ++ R) ++ U1) ++ [46]) ++ U2) ++ R) ++ [80]) := B_app _ [80]
          have zt6 : (B ((((((X ++ R) ++ U1) ++ [46]) ++ U2) ++ R) ++ [80])).size = j + 19 + j + 1 := by rw [B_size] at zt5 ⊢; rw [List.length_append, zt5]; rfl
          have t7 : B ((((((X ++ R) ++ U1) ++ [46]) ++ U2) ++ R) ++ [80]) ++ B I2 = B (((((((X ++ R) ++ U1) ++ [46]) ++ U2) ++ R) ++ [80]) ++ I2) := B_app _ _
          have v1 : (⟨#[48, 120, 46]⟩ : ByteArray) ++ B U = B ([48, 120, 46] ++ U) := B_app [48, 120, 46] U
          have zv1 : (B ([48, 120, 46] ++ U)).size = 19 := by rw [B_size, List.length_append, hul]; rfl
          have v2 : B ([48, 120, 46] ++ U) ++ (⟨#[112]⟩ : ByteArray) = B (([48, 120, 46] ++ U) ++ [112]) := B_app _ [112]
          have zv2 : (B (([48, 120, 46] ++ U) ++ [112])).size = 20 := by rw [B_size, List.length_append, List.length_append, hul]; rfl
          have v3 : B (([48, 120, 46] ++ U) ++ [112]) ++ B I3 = B ((([48, 120, 46] ++ U) ++ [112]) ++ I3) := B_app _ _
          generalize ((X ++ U) ++ [112]) ++ I1 = A3 at *
          generalize (X ++ U) ++ [112] = A2 at *
          generalize X ++ U = A1 at *
          generalize (((((((X ++ R) ++ U1) ++ [46]) ++ U2) ++ R) ++ [80]) ++ I2) = C7 at *
          generalize ((((((X ++ R) ++ U1) ++ [46]) ++ U2) ++ R) ++ [80]) = C6 at *
          generalize (((((X ++ R) ++ U1) ++ [46]) ++ U2) ++ R) = C5 at *
          generalize ((((X ++ R) ++ U1) ++ [46]) ++ U2) = C4 at *
          generalize (((X ++ R) ++ U1) ++ [46]) = C3 at *
          generalize ((X ++ R) ++ U1) = C2 at *
          generalize (X ++ R) = C1 at *
          generalize (([48, 120, 46] ++ U) ++ [112]) ++ I3 = D3 at *
          generalize ([48, 120, 46] ++ U) ++ [112] = D2 at *
          generalize ([48, 120, 46] ++ U : List UInt8) = D1 at *
          have hxs : (B X).size = 2 := by rw [B_size, hxl]
          have hRs : (B R).size = j := by rw [B_size, hRl]
          have hl1i : (l1 : Int) ≤ 100 := by omega
          have hl2i : (l2 : Int) ≤ 100 := by omega
          have hl3i : (l3 : Int) ≤ 100 := by omega
          obtain ⟨he1, he2⟩ := he
          have h24 := eq24 (W4 V 0) (W4 V 1) (W4 V 2) (W4 V 3) (W4 V 0) (W4 V 1) (W4 V 2) (W4 V 3)
          rw [show decide (W4 V 0 = W4 V 0 ∧ W4 V 1 = W4 V 1 ∧ W4 V 2 = W4 V 2 ∧ W4 V 3 = W4 V 3) = true by simp] at h24
          have hsm := cell_set_map
          unfold A4 at r1 r2 r3
          clear hxl hU1 hU15 hRl hul ht zj hZ hn i1 i2 i3
          go_upto_region 20 with (first
            | (go_at_call 16; refine (cD1 _).mono ?_; rintro r w3 ⟨rfl, hb3⟩; obtain ⟨hc3, hf3⟩ := bcell hb3; have hA3 := bnext (w0 := w) bgo hb3; have hs3 := hA3.size; clear hb3)
            | (go_at_call 11; refine (r1 _ (hT.go bgo)).mono ?_; rintro r w4 ⟨rfl, hb4⟩; obtain ⟨hc4, hf4⟩ := bcell hb4; have hA4 := bnext (w0 := w) bgo hb4; have hs4 := hA4.size; clear hb4))
          have hw4 := hs4
          have HBA : Below w.heap.size w (w4.alloc (.cells #[.int .u64 (W4 V 0), .int .u64 (W4 V 1), .int .u64 (W4 V 2), .int .u64 (W4 V 3)] 24)) := bgo
          refine wp_made 20 24 22 #[.int .u64 0, .int .u64 0, .int .u64 0, .int .u64 0] (by kernel_rfl) (by kernel_rfl) (by kernel_rfl) rfl (fun oa hoa a w => ?_) (by kernel_rfl) (by kernel_rfl) rfl rfl (fun _ _ d _ _ h => by cases d <;> exact h) ?_
          · cases hoa; exact ⟨24, by simp [go_sem]⟩
          apply Exists.intro
          refine ⟨fun al hne hcell => ?_, fun w5 hb5 => ?_, fun g w5 hb5 hg0 hg1 hg2 hg3 => ?_⟩
          · simp only [List.take_succ_cons, List.take_zero]
            repeat go_big_quiet_step (fail)
            go_big_quiet_step ((go_at_call 16; exact calls_wd _ al_next (cD2 _)))
            repeat go_big_quiet_step (fail)
            go_big_quiet_step ((go_at_call 11; exact calls_wd _ al_next (r2 _ (hT.go (bnext HBA (al_below (Wd.h _)))))))
            exact wpQuiet_nil rfl
          · simp only [List.drop_succ_cons, List.drop_zero]
            obtain ⟨hc5, hf5⟩ := bcell hb5; have hz5_0 : w4.heap.size < w5.heap.size := lt_below hb5 ltg; have hl5_0 := Nat.le_of_lt hz5_0; have hA5 := bnext (w0 := w) bgo hb5; have hs5 := hA5.size; clear hb5
            go_wp2_with (first
              | (go_at_call 16; refine (cD3 _).mono ?_; rintro r w6 ⟨rfl, hb6⟩; obtain ⟨hc6, hf6⟩ := bcell hb6; have hz6_0 : w4.heap.size < w6.heap.size := lt_below hb6 ltg; have hl6_0 := Nat.le_of_lt hz6_0; have hz6_1 : w5.heap.size < w6.heap.size := lt_below hb6 ltg; have hl6_1 := Nat.le_of_lt hz6_1; have hA6 := bnext (w0 := w) bgo hb6; have hs6 := hA6.size; clear hb6)
              | (go_at_call 11; refine (r3 _ (hT.go bgo)).mono ?_; rintro r w7 ⟨rfl, hb7⟩; obtain ⟨hc7, hf7⟩ := bcell hb7; have hz7_0 : w4.heap.size < w7.heap.size := lt_below hb7 ltg; have hl7_0 := Nat.le_of_lt hz7_0; have hz7_1 : w5.heap.size < w7.heap.size := lt_below hb7 ltg; have hl7_1 := Nat.le_of_lt hz7_1; have hA7 := bnext (w0 := w) bgo hb7; have hs7 := hA7.size; clear hb7))
            go_ret
            exact ⟨by simp, bgo⟩
          · simp only [List.drop_succ_cons, List.drop_zero, Nat.reduceSub, List.eraseIdx_cons_succ, List.eraseIdx_cons_zero]
            have hz0 : g ≠ w4.heap.size := by have := hg0; simp at this; omega
            have hgg : w4.heap.size < g := by have := hg0; simp at this; omega
            have q0 : w5.cell? ⟨g, 0, none⟩ = some (.int .u64 0) := hg2 0
            have q1 : w5.cell? ⟨g, 1, none⟩ = some (.int .u64 0) := hg2 1
            have q2 : w5.cell? ⟨g, 2, none⟩ = some (.int .u64 0) := hg2 2
            have q3 : w5.cell? ⟨g, 3, none⟩ = some (.int .u64 0) := hg2 3
            have f0 := hg3 0
            have f1 := hg3 1
            have f2 := hg3 2
            have f3 := hg3 3
            clear hg2 hg3
            obtain ⟨hc5, hf5⟩ := bcell hb5; have hz5_0 : w4.heap.size < w5.heap.size := lt_below hb5 ltg; have hl5_0 := Nat.le_of_lt hz5_0; have hA5 := bnext (w0 := w) bgo hb5; have hs5 := hA5.size; clear hb5
            have hgw : w.heap.size ≤ g := by omega
            go_wp2_with (first
              | (go_at_call 16; refine (cD3 _).mono ?_; rintro r w6 ⟨rfl, hb6⟩; obtain ⟨hc6, hf6⟩ := bcell hb6; have hz6_0 : w4.heap.size < w6.heap.size := lt_below hb6 ltg; have hl6_0 := Nat.le_of_lt hz6_0; have hz6_1 : g < w6.heap.size := lt_below hb6 ltg; have hl6_1 := Nat.le_of_lt hz6_1; have hA6 := bnext (w0 := w) bgo hb6; have hs6 := hA6.size; clear hb6)
              | (go_at_call 11; refine (r3 _ (hT.go bgo)).mono ?_; rintro r w7 ⟨rfl, hb7⟩; obtain ⟨hc7, hf7⟩ := bcell hb7; have hz7_0 : w4.heap.size < w7.heap.size := lt_below hb7 ltg; have hl7_0 := Nat.le_of_lt hz7_0; have hz7_1 : g < w7.heap.size := lt_below hb7 ltg; have hl7_1 := Nat.le_of_lt hz7_1; have hA7 := bnext (w0 := w) bgo hb7; have hs7 := hA7.size; clear hb7))
            go_ret
            exact ⟨by simp, bgo⟩
end
theorem hexformMoves_any (n d z : Int) (e : Int) (m : Int) (gr : Bool) (w : World) (hT : Tab w) (hT10 : Tb10 w) (hTZ : TbZ w) (hz : 0 ≤ z ∧ z ≤ 18446744073709551615) (he : -32768 ≤ e ∧ e ≤ 32767) (hm : 0 ≤ m ∧ m ≤ 255) :
    Calls Tryz.prog 6 #[.int .i64 n, .int .i64 d, .int .u64 z, .int .i16 e, .int .u8 m, .bool gr] w fun r w' => r = .returned (.bool true) ∧ Below w.heap.size w w' := by
  obtain ⟨Z, rfl⟩ := Int.eq_ofNat_of_zero_le hz.1
  obtain ⟨nt, rfl⟩ := Int.eq_ofNat_of_zero_le hm.1
  have c8 := fun W (hW : Below w.heap.size w W) => awake11 W (hT.go hW) (hT10.next hW) (hTZ.next hW)
  have c14 : ∀ W, Calls Tryz.prog 14 #[.int .i64 n] W fun r w' => r = .returned (.bool (decide (binN n))) ∧ W = w' := fun W => (rbinary_any n W).mono fun r w' ⟨h1, h2⟩ => ⟨h1, h2.symm⟩
  have c15 := fun W => rdir_any d W
  by_cases hb : binN n
  · rw [decide_eq_true hb] at c14
    by_cases hd : knB d
    · rw [decide_eq_true hd] at c15
      have hZ : Z < 2 ^ 64 := by omega
      obtain ⟨V, F, r1, r2, r3⟩ := mv_same gr hZ (k := nt % 12) (by omega) (e := e) (by omega) hb hd
      cases gr
      · exact law11_6s n d Z e nt w hT c8 c14 c15 hZ (by omega) he V F r1 r2 r3
      · exact law11_6g n d Z e nt w hT c8 c14 c15 hZ (by omega) he V F r1 r2 r3
    · rw [decide_eq_false hd] at c15
      exact law11_6d n d Z e nt gr w hT hT10 hTZ c8 c14 c15
  · rw [decide_eq_false hb] at c14
    exact law11_6b n d Z e nt gr w hT hT10 hTZ c8 c14
end Go.Proofs.YtplocajjfoiklaaGreatDoor

namespace Go.Proofs.YtplocajjfoiklaaGreatDoor
open Go.ChangeShapes Go.WideShapes Go.ChangeAt Go.RowKit

theorem Tryz.own : ownKnob Tryz.prog.godebug = none := by kernel_rfl
def tabCells : Array Value := ((List.range 12).flatMap fun i => (List.range 4).map fun k => rowV i k).toArray
def layCells (c : Array Value) : Obj → Obj
  | .cells _ t frozen => .cells c t frozen
  | o => o
end Go.Proofs.YtplocajjfoiklaaGreatDoor

set_option maxRecDepth 100000
namespace Go.Proofs.YtplocajjfoiklaaGreatDoor
open Go.ChangeShapes Go.WideShapes Go.ChangeAt Go.RowKit

/-- Go's tables, as cells -/
def firstCells : Array Value := (((List.replicate 128 240 ++ List.replicate 66 241 ++ List.replicate 30 2 ++ [19] ++ List.replicate 12 3 ++ [35] ++ List.replicate 2 3 ++ [52] ++ List.replicate 3 4 ++ [68] ++ List.replicate 11 241 : List Int)).map fun n => Value.int .u8 n).toArray
def rangeCells : Array Value := ((([128, 191, 160, 191, 128, 159, 144, 191, 128, 143] ++ List.replicate 22 0 : List Int)).map fun n => Value.int .u8 n).toArray
def db32Cells : Array Value := (([0, 1, 28, 2, 29, 14, 24, 3, 30, 22, 20, 15, 25, 17, 4, 8, 31, 27, 13, 23, 21, 19, 16, 7, 26, 12, 18, 6, 11, 5, 10, 9] : List Int).map fun n => Value.int .u8 n).toArray
def db64Cells : Array Value := ((([0, 1, 56, 2, 57, 49, 28, 3, 61, 58, 42, 50, 38, 29, 17, 4, 62, 47, 59, 36, 45, 43, 51, 22, 53, 39, 33, 30, 24, 18, 12, 5] ++ [63, 55, 48, 27, 60, 41, 37, 16, 46, 35, 44, 21, 52, 32, 23, 11, 54, 26, 40, 15, 34, 20, 31, 10, 25, 14, 19, 9, 13, 8, 7, 6] : List Int)).map fun n => Value.int .u8 n).toArray
def pow10Cells : Array Value := ((List.range 20).map fun k => Value.int .u64 ((10 ^ k : Nat) : Int)).toArray
noncomputable def laidWorld8 (os : Os) : World :=
  { World.holding Tryz.prog os ⟨#[], #[], []⟩ with heap := ((((((World.holding Tryz.prog os ⟨#[], #[], []⟩).heap.modify 0 (layCells tabCells)).modify 3 (layCells pow10Cells)).modify 6 (layCells db32Cells)).modify 7 (layCells db64Cells)).modify 8 (layCells firstCells)).modify 9 (layCells rangeCells) }
theorem laid_tail {P : Program} {W : World} {x : String × DataW Unit} {r : List (String × DataW Unit)} (h : laidMet P (x :: r) W) : laidMet P r W := by
  obtain ⟨ps, ⟨g, t, cs, fuel, p, q, _, _, _, _, hr, rfl⟩, hn, hc⟩ := h
  refine ⟨q, hr, ?_, fun b off hm => hc b off (by simp [hm])⟩
  exact (List.nodup_append.1 hn).2.1
theorem pw10_of_list {W : World} {x y : String × DataW Unit} {r : List (String × DataW Unit)} (h : laidMet Tryz.prog (x :: y :: ("internal/strconv.uint64pow10", Lib.tabData .u64 Lib.pow10Tab) :: r) W) : Tb10 W :=
  Lib.tabIs_of_head (P := Tryz.prog) (name := "internal/strconv.uint64pow10") (k := .u64) (zs := Lib.pow10Tab) (g := 3) (t := 222) (e := 22) (n := 20) (by kernel_rfl) (by kernel_rfl) (by kernel_rfl) (by kernel_rfl) (by kernel_rfl) (by kernel_rfl) (laid_tail (laid_tail h))
section
variable {H : Type} {enc : TypeId × Value → H} {W : World} {r : Reach} {base b : Nat} {sp : Nat → Bool} {held : Bool} {t : TypeId} {n : Nat} {v : Value} {d : DataW H} {p : List MemPlace}
end
end Go.Proofs.YtplocajjfoiklaaGreatDoor

namespace Go.Proofs.YtplocajjfoiklaaGreatDoor
open Go.ChangeShapes Go.WideShapes Go.ChangeAt Go.RowKit

/-- the two errors' texts -/
def rangeText : List UInt8 := [118, 97, 108, 117, 101, 32, 111, 117, 116, 32, 111, 102, 32, 114, 97, 110, 103, 101]
def formText : List UInt8 := [105, 110, 118, 97, 108, 105, 100, 32, 115, 121, 110, 116, 97, 120]
noncomputable def laidWorld9 (os : Os) : World :=
  { laidWorld8 os with heap := ((((laidWorld8 os).heap.modify 5 (layCells #[.iface 259 (.pointer (some ⟨(laidWorld8 os).heap.size, 0, none⟩))])).modify 4 (layCells #[.iface 259 (.pointer (some ⟨(laidWorld8 os).heap.size + 1, 0, none⟩))])).push (.cells #[.string ⟨rangeText.toArray⟩] 261)).push (.cells #[.string ⟨formText.toArray⟩] 261) }
theorem tz_of_list {W : World} {x : String × DataW Unit} {r : List (String × DataW Unit)} (h : laidMet Tryz.prog (x :: ("math/bits.deBruijn64tab", Lib.tabData .u8 tzTab) :: r) W) : TbZ W :=
  Lib.tabIs_of_head (P := Tryz.prog) (name := "math/bits.deBruijn64tab") (k := .u8) (zs := tzTab) (g := 7) (t := 254) (e := 5) (n := 64) (by kernel_rfl) (by kernel_rfl) (by kernel_rfl) (by kernel_rfl) (by kernel_rfl) (by kernel_rfl) (laid_tail h)
theorem tab_of_list6 {W : World} {x0 x1 x2 x3 x4 x5 : String × DataW Unit} {r : List (String × DataW Unit)} (h : laidMet Tryz.prog (x0 :: x1 :: x2 :: x3 :: x4 :: x5 :: ("caliper/desc.rows", Rows.laid_caliper_desc_rows) :: r) W) : Tab W :=
  tab_of_laid (laid_tail (laid_tail (laid_tail (laid_tail (laid_tail (laid_tail h))))))
end Go.Proofs.YtplocajjfoiklaaGreatDoor

set_option maxRecDepth 20000
namespace Go.Proofs.YtplocajjfoiklaaGreatDoor
open Go.RowKit

/-- an exponent that is always written -/
theorem ex_any (e : Int) (h : -1000000000 ≤ e ∧ e ≤ 1000000000) : exB (101 :: Lib.itoa e) = true ∧ exI (101 :: Lib.itoa e) = e ∧ Lib.hasPrefix (101 :: Lib.itoa e) [46] = false ∧ dgs (101 :: Lib.itoa e) = [] ∧ rst (101 :: Lib.itoa e) = 101 :: Lib.itoa e := by
  by_cases h0 : e = 0
  · subst h0
    have e0 : Lib.itoa 0 = [48] := by kernel_rfl
    rw [e0]
    exact ⟨by decide, by decide, by decide, by decide, by decide⟩
  · have := exT_cut e h
    unfold exT at this
    rw [if_neg h0] at this
    exact this
theorem clamp_id {e : Int} (h : -1000000000 ≤ e ∧ e ≤ 1000000000) : clampE e = e := by unfold clampE; omega
end Go.Proofs.YtplocajjfoiklaaGreatDoor
