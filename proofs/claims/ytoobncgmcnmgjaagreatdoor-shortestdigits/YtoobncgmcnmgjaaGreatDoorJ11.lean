/-
  Texts that the proof leans on, joined: Npw, Sd, Lv4, Qt.
-/
import Derived.Test.YtoobncgmcnmgjaaGreatDoorJ7
import Derived.Test.YtoobncgmcnmgjaaGreatDoorJ9
import Derived.Test.YtoobncgmcnmgjaaGreatDoorJ10
import Derived.Deep.Cut
import Derived.Deep.CutRange
import Derived.BigQuiet
import Derived.StillTail
import Derived.WalkKit
import Derived.Test.YtoobncgmcnmgjaaGreatDoorJ3
set_option linter.unusedVariables false
set_option linter.unusedSimpArgs false
set_option maxRecDepth 20000
set_option linter.unusedSectionVars false
namespace Go.Proofs.YtoobncgmcnmgjaaGreatDoor
open Go.RowKit

theorem val_one1 (c : Int) : val (oneW c) 1 = c := by simp [val, oneW]
theorem pow_half (s : Int) (m : Nat) : s ^ m = (if m % 2 = 1 then s else 1) * (s * s) ^ (m / 2) := by
  have e : (s * s) ^ (m / 2) = s ^ (2 * (m / 2)) := by rw [Int.pow_mul]; congr 1; rw [Int.pow_succ, Int.pow_succ, Int.pow_zero, Int.one_mul]
  rw [e]
  by_cases h : m % 2 = 1
  · rw [if_pos h, Int.mul_comm, ← Int.pow_succ]; congr 1; omega
  · rw [if_neg h, Int.one_mul]; congr 1; omega

set_option maxHeartbeats 2000000 in
theorem rpow_any (b : Int) (n : Nat) (w : World) (hb : 0 ≤ b ∧ b ≤ 18446744073709551615) (hn : n ≤ 17000) :
    Calls Tryz.prog 48 #[.int .u64 b, .int .i64 n] w fun e w' => ∃ g k cap z, e = .returned (.slice (some ⟨g, 0, none⟩) k cap) ∧ k ≤ 4 * n + 2 ∧ Num w' (some ⟨g, 0, none⟩) k cap z ∧ val z k = b ^ n ∧ Below w.heap.size w w' := by
  have hN1 := num_one w 1 (by decide)
  have hB1 := below1 w (.cells #[.int .u64 1] 22)
  have hN2 := num_one (w.alloc (.cells #[.int .u64 1] 22)) b hb
  have hB2 := below1 (w.alloc (.cells #[.int .u64 1] 22)) (.cells #[.int .u64 b] 22)
  have hN1' := hN1.next hB2
  have hB := hB1.trans (hB2.mono hB1.size)
  have hs : (w.alloc (.cells #[.int .u64 1] 22)).heap.size = w.heap.size + 1 := by simp
  rw [hs] at hN2
  have HB : Hid (Below w.heap.size w ((w.alloc (.cells #[.int .u64 1] 22)).alloc (.cells #[.int .u64 b] 22))) := hB
  clear hN1 hB1 hB2 hB hs
  go_enter Tryz.func48, Tryz.ntmps48
  go_wp2
  generalize (w.alloc (.cells #[.int .u64 1] 22)).alloc (.cells #[.int .u64 b] 22) = wA at *
  go_loopw [1, 5, 6] (fun nv ov sv wr => ∃ (m P g1 k1 p1 g2 k2 p2 : Nat) (z1 z2 : Nat → Int), nv = .int .i64 m ∧ m ≤ n ∧ 1 ≤ P ∧ m * P ≤ n ∧ P ≤ 2 * n + 1 ∧ ov = .slice (some ⟨g1, 0, none⟩) k1 p1 ∧ sv = .slice (some ⟨g2, 0, none⟩) k2 p2 ∧ k1 + 1 ≤ 2 * P ∧ k2 + 1 ≤ 2 * P ∧ Num wr (some ⟨g1, 0, none⟩) k1 p1 z1 ∧ Num wr (some ⟨g2, 0, none⟩) k2 p2 z2 ∧ Hid (val z1 k1 * val z2 k2 ^ m = b ^ n) ∧ Below w.heap.size w wr) (fun nv _ _ _ => (intOf nv).toNat)
  case atStart => exact ⟨n, 1, w.heap.size, 1, 1, w.heap.size + 1, 1, 1, oneW 1, oneW b, rfl, Nat.le_refl _, Nat.le_refl _, by omega, by omega, rfl, rfl, by omega, by omega, hN1', hN2, by show _ = _; rw [val_one1, val_one1, Int.one_mul], HB.out⟩
  case round =>
    clear hN1' hN2 HB
    obtain ⟨m, P, g1, k1, p1, g2, k2, p2, z1, z2, rfl, hmn, hP, hmP, hP2, rfl, rfl, hk1, hk2, hN1, hN2, hv, hB⟩ := hrel
    by_cases h0 : m = 0
    · subst h0
      have HV : Hid (val z1 k1 = b ^ n) := by show _ = _; have := hv.out; simpa using this
      have HN1 : Hid (Num wr (some ⟨g1, 0, none⟩) k1 p1 z1) := hN1
      clear hN1 hN2 hv
      go_wp2
      go_ret
      exact ⟨g1, k1, p1, z1, rfl, by omega, HN1.out, HV.out, hB⟩
    · have hm0 : (0 : Int) < m := by omega
      have hPn : P ≤ n := by
        have : 1 * P ≤ m * P := Nat.mul_le_mul_right P (by omega)
        omega
      have hq2 : (m : Int) / 2 = ((m / 2 : Nat) : Int) := by omega
      have hr2 : (m : Int) % 2 = ((m % 2 : Nat) : Int) := by omega
      have hmP' : m / 2 * (2 * P) ≤ n := by
        have h1 : m / 2 * 2 ≤ m := Nat.div_mul_le_self m 2
        have h2 : m / 2 * 2 * P ≤ m * P := Nat.mul_le_mul_right P h1
        rw [← Nat.mul_assoc]; omega
      have HPH : Hid (val z2 k2 ^ m = (if m % 2 = 1 then val z2 k2 else 1) * (val z2 k2 * val z2 k2) ^ (m / 2)) := pow_half _ _
      have tt := fun wr (hb : Below w.heap.size w wr) h1 h2 => times_val g1 0 k1 p1 g2 0 k2 p2 z1 z2 wr (by omega) (by omega) h1 h2
      have ts := fun wr (hb : Below w.heap.size w wr) h2 => times_val g2 0 k2 p2 g2 0 k2 p2 z2 z2 wr (by omega) (by omega) h2 h2
      generalize hq : m / 2 = q at *
      by_cases hodd : m % 2 = 1
      · rw [hodd] at hr2
        rw [if_pos hodd] at HPH
        have t1 := tt wr hB hN1 hN2
        by_cases hq0 : q = 0
        · subst hq0
          have hq00 : (m : Int) / 2 = 0 := hq2
          clear hq2
          go_wp2_with (go_at_call 32; refine t1.mono ?_; rintro e w1 ⟨g3, k3, p3, z3, rfl, hk3, hN3, hv3, hb1⟩; clear tt t1)
          have HV3 : Hid (val z3 k3 * val z2 k2 ^ 0 = b ^ n) := by
            show _ = _
            rw [hv3, ← hv.out, HPH.out]; simp
          have HN3 : Hid (Num w1 (some ⟨g3, 0, none⟩) k3 p3 z3) := hN3
          have HN2 : Hid (Num w1 (some ⟨g2, 0, none⟩) k2 p2 z2) := hN2.next hb1
          have hB1 := hB.trans (hb1.mono hB.size)
          clear hN1 hN2 hN3 hv hv3 ts
          go_roundw
          case rel => exact ⟨0, 2 * P, g3, k3, p3, g2, k2, p2, z3, z2, rfl, by omega, by omega, by omega, by omega, rfl, rfl, by omega, by omega, HN3.out, HN2.out, HV3, hB1⟩
          case measure => simp [intOf]; omega
        · have hq0' : (0 : Int) < q := by omega
          go_wp2_with (go_at_call 32; refine t1.mono ?_; rintro e w1 ⟨g3, k3, p3, z3, rfl, hk3, hN3, hv3, hb1⟩; clear tt t1)
          have hB1 := hB.trans (hb1.mono hB.size)
          have hN21 := hN2.next hb1
          have t2 := ts w1 hB1 hN21
          go_wp2_with (go_at_call 32; refine t2.mono ?_; rintro e w2 ⟨g4, k4, p4, z4, rfl, hk4, hN4, hv4, hb2⟩; clear ts t2)
          have HV3 : Hid (val z3 k3 * val z4 k4 ^ q = b ^ n) := by
            show _ = _
            rw [hv3, hv4, ← hv.out, HPH.out, Int.mul_assoc]
          have HN3 : Hid (Num w2 (some ⟨g3, 0, none⟩) k3 p3 z3) := hN3.next hb2
          have HN4 : Hid (Num w2 (some ⟨g4, 0, none⟩) k4 p4 z4) := hN4
          have hB2 := hB1.trans (hb2.mono hB1.size)
          clear hN1 hN2 hN3 hN21 hN4 hv hv3 hv4
          go_roundw
          case rel => exact ⟨q, 2 * P, g3, k3, p3, g4, k4, p4, z3, z4, rfl, by omega, by omega, by omega, by omega, rfl, rfl, by omega, by omega, HN3.out, HN4.out, HV3, hB2⟩
          case measure => simp [intOf]; omega
      · have h20 : m % 2 = 0 := by omega
        rw [h20] at hr2
        rw [if_neg hodd, Int.one_mul] at HPH
        have hq0' : (0 : Int) < q := by omega
        have t2 := ts wr hB hN2
        go_wp2_with (go_at_call 32; refine t2.mono ?_; rintro e w2 ⟨g4, k4, p4, z4, rfl, hk4, hN4, hv4, hb2⟩; clear ts tt t2)
        have HV3 : Hid (val z1 k1 * val z4 k4 ^ q = b ^ n) := by
          show _ = _
          rw [hv4, ← hv.out, HPH.out]
        have HN3 : Hid (Num w2 (some ⟨g1, 0, none⟩) k1 p1 z1) := hN1.next hb2
        have HN4 : Hid (Num w2 (some ⟨g4, 0, none⟩) k4 p4 z4) := hN4
        have hB2 := hB.trans (hb2.mono hB.size)
        clear hN1 hN2 hN4 hv hv4
        go_roundw
        case rel => exact ⟨q, 2 * P, g1, k1, p1, g4, k4, p4, z1, z4, rfl, by omega, by omega, by omega, by omega, rfl, rfl, by omega, by omega, HN3.out, HN4.out, HV3, hB2⟩
        case measure => simp [intOf]; omega
end Go.Proofs.YtoobncgmcnmgjaaGreatDoor

namespace Go.Proofs.YtoobncgmcnmgjaaGreatDoor
open Go.RowKit

theorem nt_one {W : World} {g V : Nat} {vi : Int} (hg : g = W.heap.size) (hv : vi = (V : Int)) (hb : V < 18446744073709551616) : Nt 1 V (.slice (some ⟨g, 0, none⟩) 1 1) (W.alloc (.cells #[.int .u64 vi] 22)) := by
  subst hg hv
  exact ⟨_, 1, 1, oneW V, rfl, Nat.le_refl _, num_one W V (by omega), val_one1 V⟩
section
variable (vn vd : Value) (LN LD s : Int) (w : World) (hLN : 0 ≤ LN ∧ LN ≤ 60000) (hLD : 0 ≤ LD ∧ LD ≤ 60000)
  (c26 : ∀ W, Below w.heap.size w W → Calls Tryz.prog 117 #[vn] W fun e w' => e = .returned (.int .i64 LN) ∧ W = w')
  (c26d : ∀ W, Below w.heap.size w W → Calls Tryz.prog 117 #[vd] W fun e w' => e = .returned (.int .i64 LD) ∧ W = w')
  (c57 : ∀ n : Int, n = -(LN - LD) → Calls Tryz.prog 178 #[vn, vd, .int .i64 n] w fun e w' => ∃ va vb, e = .returned (.tuple #[va, vb]) ∧ (∀ W, Below w'.heap.size w' W → Calls Tryz.prog 99 #[va, vb] W fun e w'' => e = .returned (.int .i64 s) ∧ Below W.heap.size W w'') ∧ Below w.heap.size w w')
include hLN hLD c26 c26d c57
end
section
variable (d n : Int) (s odd far : Bool) (vn vd : Value) (Q R B : Nat) (w : World)
  (c57 : Calls Tryz.prog 178 #[vn, vd, .int .i64 n] w fun e w' => ∃ va vb, e = .returned (.tuple #[va, vb]) ∧ Nt 2001 B vb w' ∧ Below w.heap.size w w' ∧
    (∀ W, Below w'.heap.size w' W → Calls Tryz.prog 128 #[va, vb] W fun e w'' => ∃ q r, e = .returned (.tuple #[q, r, .int .i64 0]) ∧ Nz 2001 Q q w'' ∧ Nz 2001 R r w'' ∧ Below W.heap.size W w''))
  (c60 : ∀ W vr vb, Nt 2001 R vr W → Nt 2001 B vb W → Calls Tryz.prog 103 #[.int .i64 d, .bool s, .bool odd, vr, vb] W fun e w' => e = .returned (.bool far) ∧ Below W.heap.size W w')
  (c26 : ∀ W vr, Nt 2001 R vr W → Calls Tryz.prog 117 #[vr] W fun e w' => e = .returned (.int .i64 (bl R : Int)) ∧ W = w')
  (c61 : ∀ W q v, Nt 2001 Q q W → Nt 1 1 v W → Calls Tryz.prog 102 #[q, v] W fun e w' => ∃ r, e = .returned r ∧ Nz 2003 (Q + 1) r w' ∧ Below W.heap.size W w')
  (hodd : ∀ k z, Words z → val z k = (Q : Int) → 0 < k → (bits BinOp.and IntKind.u64 (z 0) 1 == 1) = odd)
  (hodd0 : Q = 0 → odd = false)
include c57 c60 c26 c61 hodd hodd0
end
end Go.Proofs.YtoobncgmcnmgjaaGreatDoor

namespace Go.Proofs.YtoobncgmcnmgjaaGreatDoor
open Go.RowKit

/-- the words of a number -/
def W4 (A : Nat) (i : Nat) : Int := ((A / 2 ^ (64 * i) % 18446744073709551616 : Nat) : Int)
/-- a number of four words -/
abbrev A4 (A : Nat) : Value := .agg #[.int .u64 (W4 A 0), .int .u64 (W4 A 1), .int .u64 (W4 A 2), .int .u64 (W4 A 3)]
theorem W4_words (A : Nat) : Words (W4 A) := fun i => by
  unfold W4
  have := Nat.mod_lt (A / 2 ^ (64 * i)) (show 0 < 18446744073709551616 by decide)
  omega
theorem p64n (n : Nat) : (18446744073709551616 : Int) ^ n = ((2 ^ (64 * n) : Nat) : Int) := by
  rw [Nat.pow_mul]
  simp
theorem W4_val (A : Nat) : ∀ n, val (W4 A) n = ((A % 2 ^ (64 * n) : Nat) : Int)
  | 0 => by simp [val, Nat.mod_one]
  | n + 1 => by
    show val (W4 A) n + W4 A n * 18446744073709551616 ^ n = _
    have e : A % 2 ^ (64 * (n + 1)) = A % 2 ^ (64 * n) + 2 ^ (64 * n) * (A / 2 ^ (64 * n) % 18446744073709551616) := by
      rw [show 64 * (n + 1) = 64 * n + 64 by omega, Nat.pow_add]
      exact Nat.mod_mul
    rw [W4_val A n, p64n, e]
    unfold W4
    rw [Int.natCast_add, Int.natCast_mul, Int.mul_comm]
theorem W4_val4 {A : Nat} (h : A < 2 ^ 256) : val (W4 A) 4 = A := by
  rw [W4_val, Nat.mod_eq_of_lt h]
theorem arr_eq {x y : Nat → Int} (hx : Words x) (hy : Words y) (h : val x 4 = val y 4) : arrOf x 4 = arrOf y 4 :=
  arrOf_congr (val_inj hx hy 4 h)
theorem arr_A4 {x : Nat → Int} (hx : Words x) {A : Nat} (h : val x 4 = ((A % 2 ^ 256 : Nat) : Int)) : Value.agg (arrOf x 4) = A4 A := by
  have e : arrOf x 4 = arrOf (W4 A) 4 := arr_eq hx (W4_words A) (by rw [h, W4_val])
  rw [e]; rfl
theorem A4_mod (A : Nat) : A4 (A % 2 ^ 256) = A4 A := by
  have := arr_A4 (W4_words (A % 2 ^ 256)) (A := A) (by rw [W4_val, Nat.mod_mod])
  exact this
theorem A4_inj {A B : Nat} (hA : A < 2 ^ 256) (hB : B < 2 ^ 256) (h : ∀ i, i < 4 → W4 A i = W4 B i) : A = B := by
  have := val_congr (x := W4 A) (y := W4 B) 4 h
  rw [W4_val4 hA, W4_val4 hB] at this
  omega
/-- every pattern is a number's words -/
theorem words_A4 {x : Nat → Int} (hx : Words x) : ∃ A, A < 2 ^ 256 ∧ Value.agg (arrOf x 4) = A4 A ∧ val x 4 = A := by
  have hb := val_bd hx 4
  have e : (18446744073709551616 : Int) ^ 4 = ((2 ^ 256 : Nat) : Int) := by decide
  rw [e] at hb
  obtain ⟨A, hA⟩ := Int.eq_ofNat_of_zero_le hb.1
  have hlt : A < 2 ^ 256 := by rw [hA] at hb; exact Int.ofNat_lt.1 hb.2
  exact ⟨A, hlt, arr_A4 hx (by rw [Nat.mod_eq_of_lt hlt]; exact hA), hA⟩

theorem add4 (A B : Nat) (w : World) (hA : A < 2 ^ 256) (hB : B < 2 ^ 256) :
    Calls Tryz.prog 61 #[A4 A, A4 B] w fun e w' => e = .returned (.tuple #[A4 (A + B), .int .u64 (((A + B) / 2 ^ 256 : Nat) : Int)]) ∧ Below w.heap.size w w' := by
  refine (limAdd4 (W4 A) (W4 B) w (W4_words A) (W4_words B)).mono ?_
  rintro e w' ⟨rfl, hb⟩
  refine ⟨?_, hb⟩
  have hs := sum_val (x := W4 A) (y := W4 B) 4
  have hc := carryW_01 (W4_words A) (W4_words B) 4
  have hv := val_bd (sumW_words (W4 A) (W4 B)) 4
  rw [W4_val4 hA, W4_val4 hB] at hs
  have e4 : (18446744073709551616 : Int) ^ 4 = 115792089237316195423570985008687907853269984665640564039457584007913129639936 := by decide
  have e4n : (2 : Nat) ^ 256 = 115792089237316195423570985008687907853269984665640564039457584007913129639936 := by decide
  rw [e4] at hs hv
  rw [e4n] at hA hB ⊢
  rw [arr_A4 (sumW_words _ _) (A := A + B) (by rw [e4n]; omega)]
  have : carryW (W4 A) (W4 B) 4 = (((A + B) / 115792089237316195423570985008687907853269984665640564039457584007913129639936 : Nat) : Int) := by omega
  rw [this]
theorem sub4 (A B : Nat) (w : World) (hA : A < 2 ^ 256) (hB : B < 2 ^ 256) :
    Calls Tryz.prog 91 #[A4 A, A4 B] w fun e w' => e = .returned (.tuple #[A4 (A + 2 ^ 256 - B), .int .u64 (if A < B then 1 else 0)]) ∧ Below w.heap.size w w' := by
  refine (limSub4 (W4 A) (W4 B) w (W4_words A) (W4_words B)).mono ?_
  rintro e w' ⟨rfl, hb⟩
  refine ⟨?_, hb⟩
  have hs := dif_val (x := W4 A) (y := W4 B) (W4_words A) (W4_words B) 4
  have hc := borW_01 (W4 A) (W4 B) 4
  have hv := val_bd (difW_words (W4 A) (W4 B)) 4
  rw [W4_val4 hA, W4_val4 hB] at hs
  have e4 : (18446744073709551616 : Int) ^ 4 = 115792089237316195423570985008687907853269984665640564039457584007913129639936 := by decide
  have e4n : (2 : Nat) ^ 256 = 115792089237316195423570985008687907853269984665640564039457584007913129639936 := by decide
  rw [e4] at hs hv
  rw [e4n] at hA hB ⊢
  rw [arr_A4 (difW_words _ _) (A := A + 115792089237316195423570985008687907853269984665640564039457584007913129639936 - B) (by rw [e4n]; omega)]
  have : borW (W4 A) (W4 B) 4 = if A < B then 1 else 0 := by split <;> omega
  rw [this]
theorem A4_sub {A B : Nat} (h : B ≤ A) : A4 (A + 2 ^ 256 - B) = A4 (A - B) := by
  rw [← A4_mod (A - B), ← A4_mod (A + 2 ^ 256 - B), show A + 2 ^ 256 - B = A - B + 2 ^ 256 by omega, Nat.add_mod_right]

theorem shl4 (A n : Nat) (w : World) (hA : A < 2 ^ 256) (hn : n ≤ 100000) :
    Calls Tryz.prog 92 #[A4 A, .int .i64 n] w fun e w' => e = .returned (A4 (A * 2 ^ n)) ∧ Below w.heap.size w w' := by
  refine (shlA4 (W4 A) n w (W4_words A) (by omega)).mono ?_
  rintro e w' ⟨rfl, hb⟩
  refine ⟨?_, hb⟩
  congr 1
  by_cases h1 : n = 0
  · subst h1
    have e : shlA (W4 A) ((0 : Nat) : Int) = W4 A := by funext j; unfold shlA; rw [if_pos (by omega)]
    rw [e, Nat.pow_zero, Nat.mul_one]; rfl
  refine arr_A4 (shlA_words (W4_words A) _) ?_
  have hlow := shlL_fin (W4_words A) (N := 4) (((n : Int) / 64).toNat) (((n : Int) % 64).toNat)
  have es : shlA (W4 A) (n : Int) = shlL (W4 A) ((n : Int) / 64).toNat ((n : Int) % 64).toNat := by funext j; unfold shlA; rw [if_neg (by omega)]
  rw [es]
  obtain ⟨q, hq⟩ : ∃ q : Nat, ((n : Int) / 64).toNat = q := ⟨_, rfl⟩
  obtain ⟨r, hr⟩ : ∃ r : Nat, ((n : Int) % 64).toNat = r := ⟨_, rfl⟩
  rw [hq, hr] at hlow ⊢
  have hn : n = 64 * q + r := by omega
  have hr6 : r < 64 := by omega
  have h4 : val (shlL (W4 A) q r) 4 = val (finL (lowW (W4 A) 4) q r) 4 := by
    refine val_congr 4 fun i hi => ?_
    have := congrFun hlow i
    rw [lowW_lt hi, lowW_lt hi] at this
    exact this
  have hlw : Words (lowW (W4 A) 4) := lowW_words (W4_words A) 4
  have hz : ∀ i, 4 ≤ i → lowW (W4 A) 4 i = 0 := fun i hi => lowW_ge hi
  have hF := finL_val hlw hz q hr6
  have hvl : val (lowW (W4 A) 4) 4 = A := by
    rw [val_congr (x := lowW (W4 A) 4) (y := W4 A) 4 (fun i hi => lowW_lt hi), W4_val4 hA]
  rw [hvl, ← hn] at hF
  have hsp := val_split (finL (lowW (W4 A) 4) q r) 4 (q + 1)
  rw [show 4 + (q + 1) = 4 + q + 1 by omega, hF] at hsp
  have hbd := val_bd (finL_words hlw (q := q) (r := r)) 4
  have e4 : (18446744073709551616 : Int) ^ 4 = ((2 ^ 256 : Nat) : Int) := by decide
  rw [e4] at hbd hsp
  rw [h4]
  have : (A : Int) * 2 ^ n = ((A * 2 ^ n : Nat) : Int) := by simp
  rw [this] at hsp
  have h5 := congrArg (· % ((2 ^ 256 : Nat) : Int)) hsp
  simp only [Int.add_mul_emod_self_right, Int.emod_eq_of_lt hbd.1 hbd.2] at h5
  rw [← h5]
  rfl
theorem shr4 (A n : Nat) (w : World) (hA : A < 2 ^ 256) (hn : n ≤ 100000) :
    Calls Tryz.prog 90 #[A4 A, .int .i64 n] w fun e w' => e = .returned (A4 (A / 2 ^ n)) ∧ Below w.heap.size w w' := by
  refine (shrA4 (W4 A) n w (W4_words A) (by omega)).mono ?_
  rintro e w' ⟨rfl, hb⟩
  refine ⟨?_, hb⟩
  congr 1
  by_cases h1 : n = 0
  · subst h1
    have e : shrA (W4 A) ((0 : Nat) : Int) 4 = W4 A := by funext j; unfold shrA; rw [if_pos (by omega)]
    rw [e, Nat.pow_zero, Nat.div_one]; rfl
  refine arr_A4 (shrA_words (W4_words A) _ _) ?_
  have hlow := shrL_fin (W4_words A) (N := 4) (((n : Int) / 64).toNat) (((n : Int) % 64).toNat)
  have es : shrA (W4 A) (n : Int) 4 = shrL (W4 A) ((n : Int) / 64).toNat ((n : Int) % 64).toNat 4 := by funext j; unfold shrA; rw [if_neg (by omega)]
  rw [es]
  obtain ⟨q, hq⟩ : ∃ q : Nat, ((n : Int) / 64).toNat = q := ⟨_, rfl⟩
  obtain ⟨r, hr⟩ : ∃ r : Nat, ((n : Int) % 64).toNat = r := ⟨_, rfl⟩
  rw [hq, hr] at hlow ⊢
  have hn : n = 64 * q + r := by omega
  have hr6 : r < 64 := by omega
  have h4 : val (shrL (W4 A) q r 4) 4 = val (shrW (lowW (W4 A) 4) q r) 4 := by
    refine val_congr 4 fun i hi => ?_
    have := congrFun hlow i
    rw [lowW_lt hi] at this
    exact this
  rw [h4]
  exact (shrW_val (lowW_words (W4_words A) 4) (fun i hi => lowW_ge hi) hr6 4 (Nat.le_refl _) (by
    rw [val_congr (x := lowW (W4 A) 4) (y := W4 A) 4 (fun i hi => lowW_lt hi), W4_val4 hA])).trans (by rw [← hn, Nat.mod_eq_of_lt (Nat.lt_of_le_of_lt (Nat.div_le_self _ _) hA)])
theorem len4_le {A k : Nat} (hA : A < 2 ^ 256) : lenL (W4 A) 4 ≤ (k : Int) ↔ A < 2 ^ k := by
  have hv := W4_val4 hA
  by_cases h0 : 0 < sizeL (W4 A) 4
  · obtain ⟨L, h1, h2, h3⟩ := len_bd (W4_words A) h0
    rw [hv] at h2 h3
    rw [h1]
    have h2' : 2 ^ L ≤ A := by have : ((2 ^ L : Nat) : Int) ≤ A := by simpa using h2
                               omega
    have h3' : A < 2 ^ (L + 1) := by have : (A : Int) < ((2 ^ (L + 1) : Nat) : Int) := by simpa using h3
                                     omega
    constructor
    · intro h
      exact Nat.lt_of_lt_of_le h3' (Nat.pow_le_pow_right (by decide) (by omega))
    · intro h
      have : 2 ^ L < 2 ^ k := Nat.lt_of_le_of_lt h2' h
      have := (Nat.pow_lt_pow_iff_right (a := 2) (by decide)).1 this
      omega
  · have hz : sizeL (W4 A) 4 = 0 := by omega
    have hl : lenL (W4 A) 4 = 0 := by unfold lenL; rw [if_pos hz]
    have hA0 : (A : Int) = 0 := by
      rw [← hv, ← val_bare 4, hz]; rfl
    rw [hl]
    have : A = 0 := by omega
    subst this
    exact ⟨fun _ => Nat.two_pow_pos k, fun _ => by omega⟩
theorem len4_zero {A : Nat} (hA : A < 2 ^ 256) : lenL (W4 A) 4 = 0 ↔ A = 0 := by
  have h := len4_le (k := 0) hA
  have h2 : 0 ≤ lenL (W4 A) 4 := by
    by_cases h0 : 0 < sizeL (W4 A) 4
    · obtain ⟨L, h1, _⟩ := len_bd (W4_words A) h0
      omega
    · unfold lenL; rw [if_pos (by omega)]; exact Int.le_refl _
  constructor
  · intro h3; have := h.1 (by omega); omega
  · intro h3; have := h.2 (by omega); omega
theorem lenL_low (A : Nat) : lenL (lowW (W4 A) 4) 4 = lenL (W4 A) 4 := by
  unfold lenL
  rw [sizeL_congr (x := lowW (W4 A) 4) (y := W4 A) 4 (fun i hi => lowW_lt hi)]
  by_cases h : sizeL (W4 A) 4 = 0
  · rw [if_pos h, if_pos h]
  · have := sizeL_le (W4 A) 4
    rw [if_neg h, if_neg h, lowW_lt (by omega)]
theorem len4' (A : Nat) (w : World) : Calls Tryz.prog 93 #[A4 A] w fun e w' => e = .returned (.int .i64 (lenL (W4 A) 4)) ∧ Below w.heap.size w w' := len4 (W4 A) w (W4_words A)
theorem bit4 (A n : Nat) (w : World) (hA : A < 2 ^ 256) (hn : n < 256) :
    Calls Tryz.prog 89 #[A4 A, .int .i64 n] w fun e w' => e = .returned (.int .u64 ((A / 2 ^ n % 2 : Nat) : Int)) ∧ Below w.heap.size w w' := by
  refine (limBit4 (W4 A) n w (W4_words A) (by omega) (by omega)).mono ?_
  rintro e w' ⟨rfl, hb⟩
  refine ⟨?_, hb⟩
  have hb := W4_words A ((n : Int) / 64).toNat
  have h1 : bitV (W4 A ((n : Int) / 64).toNat) n = ((A / 2 ^ n % 2 : Nat) : Int) := by
    unfold bitV
    have h2 := and_mask (y := W4 A ((n : Int) / 64).toNat / 2 ^ ((n : Int) % 64).toNat) (r := 1) (div_word _ _ hb) (by decide)
    rw [show (1 : Int) = 2 ^ 1 - 1 by decide, h2]
    unfold W4
    obtain ⟨q, hq⟩ : ∃ q : Nat, ((n : Int) / 64).toNat = q := ⟨_, rfl⟩
    obtain ⟨r, hr⟩ : ∃ r : Nat, ((n : Int) % 64).toNat = r := ⟨_, rfl⟩
    rw [hq, hr]
    have hn : n = 64 * q + r := by omega
    have hr6 : r < 64 := by omega
    have e1 : ((2 : Int) ^ r) = ((2 ^ r : Nat) : Int) := by simp
    rw [e1, ← Int.natCast_ediv]
    have e2 : A / 2 ^ n = A / 2 ^ (64 * q) / 2 ^ r := by rw [hn, Nat.pow_add, Nat.div_div_eq_div_mul]
    rw [e2]
    generalize A / 2 ^ (64 * q) = B
    have e3 : B % 18446744073709551616 / 2 ^ r % 2 = B / 2 ^ r % 2 := by
      rw [show (18446744073709551616 : Nat) = 2 ^ r * (2 * 2 ^ (63 - r)) by rw [← Nat.pow_succ', ← Nat.pow_add, show r + (63 - r + 1) = 64 by omega]]
      rw [Nat.mod_mul_right_div_self, Nat.mod_mul_right_mod]
    have e4 : ((2 : Int) ^ 1) = ((2 : Nat) : Int) := by decide
    rw [e4, ← Int.natCast_emod, e3]
  rw [h1]
set_option maxHeartbeats 400000 in
theorem of4 (u : Nat) (w : World) (hu : u < 18446744073709551616) :
    Calls Tryz.prog 95 #[.int .u64 u] w fun e w' => e = .returned (A4 u) ∧ Below w.heap.size w w' := by
  have e0 : W4 u 0 = u := by unfold W4; rw [Nat.mul_zero, Nat.pow_zero, Nat.div_one, Nat.mod_eq_of_lt hu]
  have e1 : ∀ i, 0 < i → W4 u i = 0 := fun i hi => by
    unfold W4
    have : u < 2 ^ (64 * i) := Nat.lt_of_lt_of_le hu (by rw [show (18446744073709551616 : Nat) = 2 ^ 64 by decide]; exact Nat.pow_le_pow_right (by decide) (by omega))
    rw [Nat.div_eq_of_lt this]; rfl
  unfold A4
  rw [e0, e1 1 (by decide), e1 2 (by decide), e1 3 (by decide)]
  go_enter Tryz.func95, Tryz.ntmps95
  go_wp2
  exact bodyPost_ret (v := .agg #[.int .u64 u, .int .u64 0, .int .u64 0, .int .u64 0]) (by simp [results, Tryz.results95, go_sem]) rfl ⟨rfl, ((Below.refl _ _).alloc (Nat.le_refl _) _).alloc (by simp) _⟩
end Go.Proofs.YtoobncgmcnmgjaaGreatDoor

namespace Go.Proofs.YtoobncgmcnmgjaaGreatDoor
open Go.RowKit

section
variable {P : Program} {ops : Array Oper} {md : Region.Mode} {C : World → Prop}

/-- the first k of m have come up -/
def fdone (k m : Nat) : Array Bool := (List.replicate k true ++ List.replicate (m - k) false).toArray
theorem fdone_zero (m : Nat) : fdone 0 m = Array.replicate m false := by
  simp [fdone]
theorem fdone_next {k m : Nat} (h : k < m) : (fdone k m).setIfInBounds k true = fdone (k + 1) m := by
  apply Array.ext
  · simp [fdone]; omega
  · intro i h1 h2
    have hi : i < m := by simp [fdone] at h2; omega
    simp only [fdone, List.setIfInBounds_toArray, List.getElem_toArray, List.getElem_set, List.getElem_append, List.length_replicate, List.getElem_replicate]
    split
    · subst_vars; simp
    · by_cases hk : i < k
      · simp [hk, show i < k + 1 by omega]
      · simp [hk, show ¬ i < k + 1 by omega]
theorem fdone_out {k m j : Nat} (h : (fdone k m).getD j true = false) : k ≤ j := by
  rcases Nat.lt_or_ge j k with h1 | h1
  · simp [fdone, List.getElem?_append, h1] at h
  · exact h1

/-- every one behind n waits for one between n and itself -/
def chainC (md : Region.Mode) (ops : Array Oper) (n : Nat) : Bool :=
  (List.range ops.size).all fun t => decide (t ≤ n) || (List.range t).any fun s => decide (n ≤ s) && Region.waitsFor md ops t s
/-- all the checks of a head in one -/
def headB (md : Region.Mode) (ops : Array Oper) (n : Nat) : Bool :=
  Region.noSelect ops && decide (n < ops.size) && Region.sinkB md ops n && chainC md ops n && (List.range n).all fun k => (Region.ready md ops (fdone k ops.size)).contains k && Region.free md ops (fdone k ops.size) k

theorem waits_sink {n : Nat} {done : Array Bool} (hs : Region.sinkB md ops n = true) (hn : n < ops.size) (inv : HeadInv md ops n done) :
    ∀ (d i : Nat), n - i = d → i < n → done.getD i true = false → n ∉ Region.ready md ops done := by
  intro d
  induction d using Nat.strongRecOn with
  | _ d ih =>
    intro i hd hi hun hr
    obtain ⟨_, ot, hot, hall⟩ := mem_ready.1 hr
    obtain ⟨j, hj, hj2⟩ := List.any_eq_true.1 (List.all_eq_true.1 hs i (List.mem_range.2 hi))
    simp only [Bool.and_eq_true, decide_eq_true_eq] at hj2
    obtain ⟨oj, hoj, e, he, hb, hon⟩ := Region.waitsFor_spec hj2.2
    have hjle : j ≤ n := by have := List.mem_range.1 hj; omega
    by_cases hjn : j = n
    · subst hjn
      obtain rfl : oj = ot := Option.some.inj (hoj.symm.trans hot)
      have h2 := hall e he hb
      rw [hon, getD_both hun] at h2
      cases h2
    · cases hl : done.getD j false with
      | true =>
        have h2 := inv.closed j oj hoj hl e he hb
        rw [hon, getD_both hun] at h2
        cases h2
      | false =>
        exact ih (n - j) (by omega) j rfl (by omega) (getD_in (by rw [inv.size]; omega) hl) hr
theorem waits_tail {n i : Nat} {done : Array Bool} (hs : Region.sinkB md ops n = true) (hc : chainC md ops n = true) (hn : n < ops.size) (inv : HeadInv md ops n done) (hi : i < n) (hun : done.getD i true = false) (t : Nat) (ht : n ≤ t) : t ∉ Region.ready md ops done := by
  intro hr
  by_cases htn : t = n
  · subst htn; exact waits_sink hs hn inv _ i rfl hi hun hr
  · obtain ⟨_, ot, hot, hall⟩ := mem_ready.1 hr
    have htlt : t < ops.size := (Array.getElem?_eq_some_iff.1 hot).1
    have h1 := List.all_eq_true.1 hc t (List.mem_range.2 htlt)
    simp only [Bool.or_eq_true, decide_eq_true_eq] at h1
    rcases h1 with h1 | h1
    · omega
    · obtain ⟨s, hsm, hs2⟩ := List.any_eq_true.1 h1
      simp only [Bool.and_eq_true, decide_eq_true_eq] at hs2
      obtain ⟨o', ho', e, he, hb, hon⟩ := Region.waitsFor_spec hs2.2
      obtain rfl : o' = ot := Option.some.inj (ho'.symm.trans hot)
      have hst := List.mem_range.1 hsm
      have h2 := hall e he hb
      rw [hon, getD_both (inv.tail s hs2.1 (by omega))] at h2
      cases h2

/-- the first n come up in any order, each quiet in the class -/
def headQ (P : Program) (md : Region.Mode) (ops : Array Oper) (C : World → Prop) (n : Nat) (L : Array Bool → Act → Prop) : Nat → Array Bool → Act → Prop
  | 0, done, a => L done a
  | f + 1, done, a => Region.ready md ops done ≠ [] ∧ ∀ i ∈ Region.ready md ops done, i < n ∧ qOp P ops C i (headQ P md ops C n L f (done.setIfInBounds i true)) a

theorem headQ_any {n g : Nat} {L : Array Bool → Act → Prop} {Q : Exit → Act → World → Prop} (hL : ∀ done a w, C w → L done a → wpAny P md ops Q g done a w) :
    ∀ (f : Nat) (done : Array Bool) (a : Act) (w : World), C w → headQ P md ops C n L f done a → wpAny P md ops Q (f + g) done a w
  | 0, done, a, w, hw, h => by rw [Nat.zero_add]; exact hL _ _ _ hw h
  | f + 1, done, a, w, hw, h => by
    rw [show f + 1 + g = (f + g) + 1 by omega]
    exact ⟨fun h0 => absurd h0 h.1, fun i hi => wpOp_of_qOp hw (fun a' w' hw' h' => headQ_any hL f _ a' w' hw' h') (h.2 i hi).2⟩

theorem headQ_first {n i : Nat} {oi : Oper} {v : Value} {L : Array Bool → Act → Prop} (hi : ops[i]? = some oi) (hsel : ∀ (j : Nat) (o : Oper) cs b, ops[j]? = some o → o.op ≠ .select cs b)
    (hs : Region.sinkB md ops n = true) (hc : chainC md ops n = true) (hn : n < ops.size) (hin : i < n) (hend : ∀ done a, L done a → ∀ j ∈ Region.ready md ops done, n ≤ j) :
    ∀ (f : Nat) (done : Array Bool) (a : Act), HeadInv md ops n done →
      (∀ j oj, ops[j]? = some oj → j ≠ i → done.getD j true = false → (∀ e ∈ oj.after, Region.binds md e = true → e.on ≠ i) → oi.apart ops oj = true) →
      i ∈ Region.ready md ops done → YieldsIn P ops C oi v a → headQ P md ops C n L f (done.setIfInBounds i true) (a.put oi.dst v) → headQ P md ops C n L (f + 1) done a := by
  intro f
  induction f with
  | zero =>
    intro done a inv _ hr hy H
    refine ⟨fun h => (by rw [h] at hr; cases hr), fun j hj => ?_⟩
    have hjn : j < n := Nat.lt_of_not_le fun h => waits_tail hs hc hn inv hin (mem_ready.1 hr).1 j h hj
    refine ⟨hjn, ?_⟩
    by_cases hji : j = i
    · subst hji; exact hy.qOp hi H
    · have := hend _ _ H j (ready_mono hj hji)
      omega
  | succ f ih =>
    intro done a inv hfree hr hy H
    have hun := (mem_ready.1 hr).1
    refine ⟨fun h => (by rw [h] at hr; cases hr), fun j hj => ?_⟩
    have hjn : j < n := Nat.lt_of_not_le fun h => waits_tail hs hc hn inv hin hun j h hj
    refine ⟨hjn, ?_⟩
    by_cases hji : j = i
    · subst hji; exact hy.qOp hi H
    · obtain ⟨hjun, oj, hoj, hall⟩ := mem_ready.1 hj
      have hnot : ∀ e ∈ oj.after, Region.binds md e = true → e.on ≠ i := fun e he hb heq => by
        have h1 := hall e he hb
        rw [heq, getD_both hun] at h1
        cases h1
      have h2 := qOp_put hoj (hfree j oj hoj hji hjun hnot) (fun cs b => hsel i oi cs b hi) (fun cs b => hsel j oj cs b hoj) hy (H.2 j (ready_mono hj hji)).2
      refine qOp_mono (fun a' h3 => ih (done.setIfInBounds j true) a' (inv.set hj hjn) (fun k ok hk hki hku hno => hfree k ok hk hki ?_ hno) (ready_mono hr (Ne.symm hji)) h3.1 ?_) h2
      · by_cases hjk : j = k
        · subst hjk; exact hjun
        · rw [getD_set_ne true hjk] at hku; exact hku
      · rw [Array.setIfInBounds_comm _ _ hji]
        exact h3.2

theorem headQ_lex {n : Nat} {K : Act → Prop} (hsel : Region.noSelect ops = true) (hs : Region.sinkB md ops n = true) (hc : chainC md ops n = true) (hn : n < ops.size)
    (hB : ∀ k, k < n → (Region.ready md ops (fdone k ops.size)).contains k = true ∧ Region.free md ops (fdone k ops.size) k = true) :
    ∀ (l : List Oper) (k : Nat) (a : Act), (∀ j, j < l.length → l[j]? = ops[k + j]?) → k + l.length = n → HeadInv md ops n (fdone k ops.size) →
    wpQuiet P ops C K l a → headQ P md ops C n (fun done' a' => done' = fdone n ops.size ∧ K a') l.length (fdone k ops.size) a
  | [], k, a, _, hk, _, h => by
    have : k = n := by simpa using hk
    subst this
    exact ⟨rfl, h⟩
  | o :: l, k, a, hl, hk, inv, h => by
    have h0 : ops[k]? = some o := by simpa using (hl 0 (by simp)).symm
    have hkn : k < n := by simp only [List.length_cons] at hk; omega
    obtain ⟨hr, hf⟩ := hB k hkn
    have hr' : k ∈ Region.ready md ops (fdone k ops.size) := by simpa using hr
    have hst : qOp P ops C k (wpQuiet P ops C K l) a := by unfold qOp; simp only [h0]; exact h
    obtain ⟨v, hy, hK⟩ := yieldsIn_of_qOp h0 hst
    have inv' := inv.set hr' hkn
    rw [fdone_next (by omega)] at inv'
    refine headQ_first h0 (Region.noSelect_spec hsel) hs hc hn hkn (fun done' a' hL j hj => ?_) l.length _ a inv (Region.free_spec h0 hf) hr' hy ?_
    · rw [hL.1] at hj; exact fdone_out (mem_ready.1 hj).1
    · rw [fdone_next (by omega)]
      exact headQ_lex hsel hs hc hn hB l (k + 1) _ (fun j hj => by have := hl (j + 1) (by simp; omega); simpa [Nat.add_assoc, Nat.add_comm 1 j] using this) (by simp only [List.length_cons] at hk; omega) inv' hK

/-- what only hands values on -/
def wless : Op → Bool
  | .move _ => true
  | .assign _ => true
  | .extract _ _ => true
  | _ => false
theorem wless_run {o : Oper} {a : Act} {w : World} {K : Act → World → Prop} {Q : Exit → Act → World → Prop} (hk : wless o.op = true) (h : o.wp P a w K Q ∨ (o.asks P a w ∧ LetsOut Q)) :
    ∃ v, (∀ w, (execOp a.eval o).run P w = .ok (.value v) w) ∧ K (a.put o.dst v) w := by
  have key : ∀ v, execOp a.eval o = pure (.value v) → ∃ v, (∀ w, (execOp a.eval o).run P w = .ok (.value v) w) ∧ K (a.put o.dst v) w := by
    intro v hv
    rcases h with h | ⟨h, _⟩
    · refine ⟨v, fun w => by rw [hv]; rfl, ?_⟩
      unfold Oper.wp at h
      rw [hv] at h
      exact h
    · exfalso
      have h1 := h.1
      rw [hv] at h1
      have e : (Sem.runT P (pure (Next.value v)) w #[]).2 = #[] := rfl
      rw [e] at h1
      simp at h1
  cases hop : o.op <;> simp only [hop, wless, Bool.false_eq_true] at hk
  case move x => exact key (a.eval x) (by simp [execOp, hop])
  case assign x => exact key (a.eval x) (by simp [execOp, hop])
  case extract x ix =>
    have bad : ∀ st, execOp a.eval o = ((stuck st : Sem Value) >>= fun v => pure (Next.value v)) → False := by
      intro st hst
      rcases h with h | ⟨h, _⟩
      · unfold Oper.wp at h
        rw [hst] at h
        exact h
      · have h1 := h.1
        rw [hst] at h1
        have e : (Sem.runT P ((stuck st : Sem Value) >>= fun v => pure (Next.value v)) w #[]).2 = #[] := rfl
        rw [e] at h1
        simp at h1
    cases hx : a.eval x
    case tuple vs =>
      cases hv : vs[ix]? with
      | some v => exact key v (by simp [execOp, hop, Instr.extract, hx, hv])
      | none => exact (bad "Extract: no such component" (by simp only [execOp, hop, Instr.extract, hx, hv])).elim
    all_goals exact (bad "Extract: tuple expected" (by simp only [execOp, hop, Instr.extract, hx])).elim

/-- what is left comes up one by one, but for what only hands values on -/
def restB (md : Region.Mode) (ops : Array Oper) (n : Nat) : Bool :=
  Region.noSelect ops && (List.range (ops.size - n)).all (fun j => decide (Region.ready md ops (fdone (n + j) ops.size) = [n + j]) || ((Region.ready md ops (fdone (n + j) ops.size)).contains (n + j) && Region.free md ops (fdone (n + j) ops.size) (n + j) && ((ops[n + j]?).map fun o => wless o.op && o.guard.isNone).getD false)) && (Region.ready md ops (fdone ops.size ops.size)).isEmpty
theorem wpAny_rest {Q : Exit → Act → World → Prop} (hsel : Region.noSelect ops = true) (hQ : ∀ c a d v w, Q (.panic c) (Act.put a d v) w → Q (.panic c) a w) (hend : Region.ready md ops (fdone ops.size ops.size) = []) :
    ∀ (l : List Oper) (k : Nat) (a : Act) (w : World), (∀ j, l[j]? = ops[k + j]?) → k + l.length = ops.size →
    (∀ j, k ≤ j → j < ops.size → Region.ready md ops (fdone j ops.size) = [j] ∨ ((Region.ready md ops (fdone j ops.size)).contains j = true ∧ Region.free md ops (fdone j ops.size) j = true ∧ ∃ o, ops[j]? = some o ∧ wless o.op = true ∧ o.guard = none)) →
    wpList P ops Q l a w → wpAny P md ops Q l.length (fdone k ops.size) a w
  | [], k, a, w, _, hk, _, h => by
    have : k = ops.size := by simpa using hk
    subst this
    exact ⟨hend, h⟩
  | o :: l, k, a, w, hl, hk, hB, h => by
    have h0 : ops[k]? = some o := by simpa using (hl 0).symm
    have hks : k < ops.size := by simp only [List.length_cons] at hk; omega
    have hl' : ∀ j, l[j]? = ops[k + 1 + j]? := fun j => by have := hl (j + 1); simpa [Nat.add_assoc, Nat.add_comm 1 j] using this
    have hk' : k + 1 + l.length = ops.size := by simp only [List.length_cons] at hk; omega
    have ih := fun a w => wpAny_rest hsel hQ hend l (k + 1) a w hl' hk' (fun j h1 h2 => hB j (by omega) h2)
    rcases hB k (Nat.le_refl _) hks with hr | ⟨hr, hf, o', ho', hwl, hg⟩
    · refine ⟨fun h1 => (by rw [hr] at h1; cases h1), fun i hi => ?_⟩
      rw [hr] at hi
      obtain rfl : i = k := by simpa using hi
      rw [fdone_next hks]
      have hw : wpOp P ops Q i (wpList P ops Q l) a w := by unfold wpOp; simp only [h0]; exact h
      exact wpOp_mono (fun a' w' h' => ih a' w' h') hw
    · obtain rfl : o' = o := Option.some.inj (ho'.symm.trans h0)
      have hwt : Region.wanted o' (yielded ops a.tmps) = true := by unfold Region.wanted; rw [hg]
      unfold wpList at h
      rw [if_pos hwt] at h
      obtain ⟨v, hv, hK⟩ := wless_run hwl h
      refine wpAny_take h0 hsel hf hr (fun c a w => hQ c a _ v w) (Or.inl ⟨hwt, hv⟩) ?_
      rw [fdone_next hks]
      exact ih _ _ hK

theorem wpQuiet_mono {K K' : Act → Prop} (h : ∀ a, K a → K' a) : ∀ (l : List Oper) (a : Act), wpQuiet P ops C K l a → wpQuiet P ops C K' l a
  | [], a, hh => h a hh
  | o :: l, a, hh => by
    unfold wpQuiet at *
    split
    · rename_i hw; rw [if_pos hw] at hh; exact Oper.quiet_mono (wpQuiet_mono h l) hh
    · rename_i hw; rw [if_neg hw] at hh; exact wpQuiet_mono h l _ hh
/-- the class: whatever has been made behind w -/
abbrev Bk (w : World) : World → Prop := fun W => Below w.heap.size w W
theorem bk_iff {w : World} (X : World → Prop) : (∀ w', (∃ t : Wd (Bk w), w' = t.w) → X w') = (∀ w', Below w.heap.size w w' → X w') :=
  propext ⟨fun h w' hb => h w' ⟨⟨w', hb⟩, rfl⟩, fun h w' ⟨t, e⟩ => h w' (by rw [e]; exact t.h)⟩
theorem bk_next {w : World} : ∀ v v' : World, Bk w v → Below v.heap.size v v' → Bk w v' := fun v v' h hb => h.trans (hb.mono h.size)

/-- **A region that draws its order: the first n, which read and call, walked once in the order of the text; what is left then may still come up in any order.** -/
theorem wp_head {id : Nat} {Q : Exit → Act → World → Prop} {a : Act} {w : World} {l : List Oper} (n : Nat) (hm : P.follows .mixedOrders = true) (hB : headB .any l.toArray n = true)
    (h : Nonempty (Wd (Bk w)) → (∀ (t : Wd (Bk w)) (b o : Nat), b < w.heap.size → t.w.cell? ⟨b, o, none⟩ = w.cell? ⟨b, o, none⟩) →
      wpQuiet P l.toArray (fun w' => ∃ t : Wd (Bk w), w' = t.w) (fun a' => ∀ w', Below w.heap.size w w' → wpAny P .any l.toArray Q (l.length - n) (fdone n l.length) a' w') (l.take n) a) : (Code.region id l.toArray true).wp P Q a w := by
  simp only [headB, Bool.and_eq_true, decide_eq_true_eq] at hB
  obtain ⟨⟨⟨⟨hsel, hn⟩, hs⟩, hc⟩, hlex⟩ := hB
  have hn' : n < l.length := by simpa using hn
  have htl : (l.take n).length = n := by simp; omega
  have h' := h ⟨⟨w, Below.refl _ _⟩⟩ fun t b o hb => t.h.cell (p := ⟨b, o, none⟩) hb
  simp only [← bk_iff] at h'
  have hsz : l.toArray.size = l.length := by simp
  have inv0 : HeadInv .any l.toArray n (fdone 0 l.toArray.size) := by
    rw [fdone_zero]
    exact ⟨by simp, fun j oj _ hl => (by rw [getD_replicate_false] at hl; cases hl), fun t _ ht => getD_in (by simpa using ht) (getD_replicate_false _ _)⟩
  have H := headQ_lex (md := .any) hsel hs hc hn (fun k hk => by
    have := List.all_eq_true.1 hlex k (List.mem_range.2 hk)
    simpa only [Bool.and_eq_true] using this) (l.take n) 0 a (fun j hj => by
    have hj' : j < n := by rw [htl] at hj; exact hj
    simp [hj']) (by simpa using htl) inv0 h'
  refine wp_region_any hm ?_
  have := headQ_any (Q := Q) (g := l.length - n) (fun done a' w' hw' hL => by
    rw [hL.1, hsz]
    exact hL.2 w' hw') _ _ _ w.drew ⟨⟨w.drew, (Below.refl _ _).drew⟩, rfl⟩ H
  rw [htl, show n + (l.length - n) = l.toArray.size by rw [hsz]; omega, fdone_zero] at this
  exact this
theorem wp_tail {id : Nat} {Q : Exit → Act → World → Prop} {a : Act} {w : World} {l : List Oper} (n : Nat) (hm : P.follows .mixedOrders = true) (hB : headB .any l.toArray n = true) (hR : restB .any l.toArray n = true) (hQ : ∀ c a d v w, Q (.panic c) (Act.put a d v) w → Q (.panic c) a w)
    (h : Nonempty (Wd (Bk w)) → (∀ (t : Wd (Bk w)) (b o : Nat), b < w.heap.size → t.w.cell? ⟨b, o, none⟩ = w.cell? ⟨b, o, none⟩) →
      wpQuiet P l.toArray (fun w' => ∃ t : Wd (Bk w), w' = t.w) (fun a' => ∀ w', Below w.heap.size w w' → wpList P l.toArray Q (l.drop n) a' w') (l.take n) a) : (Code.region id l.toArray true).wp P Q a w := by
  refine wp_head n hm hB fun h1 h2 => ?_
  have hsz : l.toArray.size = l.length := by simp
  have hn : n < l.length := by
    simp only [headB, Bool.and_eq_true, decide_eq_true_eq] at hB
    have := hB.1.1.1.2; rwa [hsz] at this
  simp only [restB, Bool.and_eq_true, List.isEmpty_iff] at hR
  obtain ⟨⟨hsel, hall⟩, hend⟩ := hR
  refine wpQuiet_mono (fun a' h3 w' hw' => ?_) (l.take n) a (h h1 h2)
  have := wpAny_rest (P := P) (md := .any) (Q := Q) hsel hQ hend (l.drop n) n a' w' (fun j => by simp [List.getElem?_drop]) (by simp; omega) (fun j hj1 hj2 => by
    have h5 := List.all_eq_true.1 hall (j - n) (List.mem_range.2 (by omega))
    rw [show n + (j - n) = j by omega] at h5
    simp only [Bool.or_eq_true, Bool.and_eq_true, decide_eq_true_eq] at h5
    rcases h5 with h5 | ⟨⟨h5, h6⟩, h7⟩
    · exact Or.inl h5
    · refine Or.inr ⟨h5, h6, ?_⟩
      cases ho : l.toArray[j]? with
      | none => rw [ho] at h7; cases h7
      | some o =>
        rw [ho] at h7
        simp only [Option.map_some, Option.getD_some, Bool.and_eq_true, Option.isNone_iff_eq_none] at h7
        exact ⟨o, rfl, h7.1, h7.2⟩) (h3 w' hw')
  rw [hsz] at this
  simpa using this
theorem wp_whole {id : Nat} {Q : Exit → Act → World → Prop} {a : Act} {w : World} {l : List Oper} (hm : P.follows .mixedOrders = true) (hB : Region.lexB .any l.toArray = true)
    (h : Nonempty (Wd (Bk w)) → (∀ (t : Wd (Bk w)) (b o : Nat), b < w.heap.size → t.w.cell? ⟨b, o, none⟩ = w.cell? ⟨b, o, none⟩) →
      wpQuiet P l.toArray (fun w' => ∃ t : Wd (Bk w), w' = t.w) (fun a' => ∀ w', Below w.heap.size w w' → Q .normal a' w') l a) : (Code.region id l.toArray true).wp P Q a w := by
  refine wp_region_wd (Bk w) hm hB (Below.refl _ _).drew ?_
  simp only [bk_iff]
  exact h ⟨⟨w, Below.refl _ _⟩⟩ fun t b o hb => t.h.cell (p := ⟨b, o, none⟩) hb
end
end Go.Proofs.YtoobncgmcnmgjaaGreatDoor
