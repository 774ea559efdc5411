/-
  The law BinarySigns: it returns true.
-/
import Derived.Test.YtemhpdhplbcgjaaDoorLr
set_option linter.unusedVariables false
set_option linter.unusedSectionVars false
set_option linter.unusedSimpArgs false
set_option maxRecDepth 20000
namespace Go.Proofs.YtemhpdhplbcgjaaDoor
open Go.RowKit

theorem flip_bit {q L S : Nat} (hS : S ≤ 1) (hL : L < 2 ^ q) (j : Nat) : ((L + S * 2 ^ q) ^^^ (L + (1 - S) * 2 ^ q)).testBit j = decide (j = q) := by
  have h : ∀ S, (L + S * 2 ^ q).testBit j = if j < q then L.testBit j else S.testBit (j - q) := fun S => by
    rw [Nat.add_comm, Nat.mul_comm, Nat.testBit_two_pow_mul_add _ hL]
  rw [Nat.testBit_xor, h, h]
  by_cases h1 : j < q
  · rw [if_pos h1, if_pos h1, decide_eq_false (by omega)]; simp
  · rw [if_neg h1, if_neg h1]
    have h2 : ∀ i, Nat.testBit 1 i = decide (i = 0) := fun i => by
      rw [show (1 : Nat) = 2 ^ 0 by rfl, Nat.testBit_two_pow]
      exact decide_eq_decide.2 ⟨fun h => h.symm, fun h => h.symm⟩
    have h3 : decide (j - q = 0) = decide (j = q) := decide_eq_decide.2 (by omega)
    have : S = 0 ∨ S = 1 := by omega
    rcases this with rfl | rfl <;> simp [h2, h3]
theorem word_bit (A i k : Nat) (hk : k < 64) : (A / 2 ^ (64 * i) % 18446744073709551616).testBit k = A.testBit (64 * i + k) := by
  rw [show (18446744073709551616 : Nat) = 2 ^ 64 by decide, Nat.testBit_mod_two_pow, decide_eq_true hk, Bool.true_and, Nat.testBit_div_two_pow, Nat.add_comm]
/-- a bit in which two patterns differ, as the law asks for it -/
theorem xor_bit {B C q : Nat} (h : ∀ j, (B ^^^ C).testBit j = decide (j = q)) (i k : Nat) (hk : k < 64) :
    (bits BinOp.and IntKind.u64 (bits BinOp.xor IntKind.u64 (W4 B i) (W4 C i) / 2 ^ k) 1 == 1) = decide (64 * i + k = q) := by
  have hb := W4_words B i
  have hc := W4_words C i
  have hx : bits BinOp.xor IntKind.u64 (W4 B i) (W4 C i) = (((B / 2 ^ (64 * i) % 18446744073709551616) ^^^ (C / 2 ^ (64 * i) % 18446744073709551616) : Nat) : Int) := by
    rw [u64_xor _ _ hb.1 (by omega) hc.1 (by omega)]
    unfold W4
    rw [Int.toNat_natCast, Int.toNat_natCast]
  have hlt : (B / 2 ^ (64 * i) % 18446744073709551616) ^^^ (C / 2 ^ (64 * i) % 18446744073709551616) < 2 ^ 64 := Nat.xor_lt_two_pow (Nat.mod_lt _ (by decide)) (Nat.mod_lt _ (by decide))
  have ht : ((B / 2 ^ (64 * i) % 18446744073709551616) ^^^ (C / 2 ^ (64 * i) % 18446744073709551616)).testBit k = decide (64 * i + k = q) := by
    rw [Nat.testBit_xor, word_bit _ _ _ hk, word_bit _ _ _ hk, ← Nat.testBit_xor, h]
  rw [hx]
  generalize (B / 2 ^ (64 * i) % 18446744073709551616) ^^^ (C / 2 ^ (64 * i) % 18446744073709551616) = X at *
  have e1 : ((X : Nat) : Int) / 2 ^ k = ((X / 2 ^ k : Nat) : Int) := by simp
  have hd : X / 2 ^ k ≤ X := Nat.div_le_self _ _
  have hd2 : X / 2 ^ k < 18446744073709551616 := Nat.lt_of_le_of_lt hd hlt
  have h2 := and_mask (y := ((X / 2 ^ k : Nat) : Int)) (r := 1) ⟨Int.natCast_nonneg _, by generalize X / 2 ^ k = Y at *; omega⟩ (by decide)
  rw [e1, show (1 : Int) = 2 ^ 1 - 1 by decide, h2, ← ht, Nat.testBit_eq_decide_div_mod_eq]
  have e2 : ((X / 2 ^ k : Nat) : Int) % 2 ^ 1 = ((X / 2 ^ k % 2 : Nat) : Int) := by simp
  rw [e2]
  have : X / 2 ^ k % 2 = 0 ∨ X / 2 ^ k % 2 = 1 := by generalize X / 2 ^ k = Y; omega
  rcases this with e | e <;> rw [e] <;> decide
/-- how many bits below a place differ -/
def dif (q j : Nat) : Int := if q < j then 1 else 0
theorem dif_next {q j : Nat} (h : decide (j = q) = false) : dif q (j + 1) = dif q j := by
  unfold dif
  have : j ≠ q := by simpa using h
  by_cases h1 : q < j
  · rw [if_pos h1, if_pos (by omega)]
  · rw [if_neg h1, if_neg (by omega)]
theorem dif_at {q j : Nat} (h : decide (j = q) = true) : dif q (j + 1) = dif q j + 1 := by
  unfold dif
  have : j = q := by simpa using h
  rw [if_pos (by omega), if_neg (by omega)]; rfl
theorem dif_bd (q j : Nat) : 0 ≤ dif q j ∧ dif q j ≤ 1 := by unfold dif; by_cases h : q < j <;> simp [h]
theorem dif_zero (q : Nat) : dif q 0 = 0 := by unfold dif; simp
theorem dif_all {q : Nat} (h : q < 256) : dif q 256 = 1 := by unfold dif; rw [if_pos h]
attribute [local irreducible] W4 dif
section
variable (n : Int) (B C q : Nat) (w : World) (hT : Tab w) (c x : Int) (s g : Bool) (k : Nat)
include hT
set_option maxHeartbeats 2000000 in
theorem signs_ok
    (c10 : ∀ w, Tab w → Calls Tryd.prog 10 #[.int .i64 n, A4 B] w fun r w' => r = .returned (.tuple #[DV c (!s) g x k, .int .i64 0]) ∧ Below w.heap.size w w')
    (c12 : ∀ w, Tab w → Calls Tryd.prog 12 #[.int .i64 n, DV c s g x k] w fun r w' => r = .returned (.tuple #[A4 C, .int .i64 0]) ∧ Below w.heap.size w w')
    (c10p : ∀ w, Tab w → Calls Tryd.prog 10 #[.int .i64 n, A4 C] w fun r w' => r = .returned (.tuple #[DV c s g x k, .int .i64 0]) ∧ Below w.heap.size w w')
    (hq : q < 256)
    (hbit : ∀ i k, k < 64 → (bits BinOp.and IntKind.u64 (bits BinOp.xor IntKind.u64 (W4 B i) (W4 C i) / 2 ^ k) 1 == 1) = decide (64 * i + k = q))
    : Calls Tryd.prog 8 #[.int .i64 n, A4 B] w fun x w' => x = .returned (.bool true) ∧ Below w.heap.size w w' := by
  have h27 := DV_self c s g x k
  have hsm := cell_set_map
  have hnn : (!(!s)) = s := by cases s <;> rfl
  have hq1 := dif_all hq
  go_enter Tryd.func8, Tryd.ntmps8
  go_wp2_with (first
    | (go_at_call 9; refine (awake_any _ (hT.alloc _)).mono ?_; rintro x w1 ⟨rfl, hb1⟩; obtain ⟨hc1, hf1⟩ := bcell hb1; have hz1_0 : w.heap.size < w1.heap.size := lt_below hb1 (by first | with_reducible assumption | (simp; done) | (simp; omega)); have hl1_0 := Nat.le_of_lt hz1_0; have hA1 := bnext (w0 := w) (by (repeat (first | with_reducible assumption | with_reducible exact Below.refl _ _ | with_reducible refine Below.setCell ?_ (by first | omega | (dsimp only; omega) | (simp <;> omega)) _ | with_reducible refine Below.alloc ?_ (by first | omega | (simp <;> omega)) _ | with_reducible refine Below.drew ?_))) hb1; have hs1 := hA1.size; clear hb1)
    | (have := hA3; go_at_call 10; refine (c10p _ (hT.go (by (repeat (first | with_reducible assumption | with_reducible exact Below.refl _ _ | with_reducible refine Below.setCell ?_ (by first | omega | (dsimp only; omega) | (simp <;> omega)) _ | with_reducible refine Below.alloc ?_ (by first | omega | (simp <;> omega)) _ | with_reducible refine Below.drew ?_))))).mono ?_; rintro x w4 ⟨rfl, hb4⟩; obtain ⟨hc4, hf4⟩ := bcell hb4; have hz4_0 : w.heap.size < w4.heap.size := lt_below hb4 (by first | with_reducible assumption | (simp; done) | (simp; omega)); have hl4_0 := Nat.le_of_lt hz4_0; have hz4_1 : w2.heap.size < w4.heap.size := lt_below hb4 (by first | with_reducible assumption | (simp; done) | (simp; omega)); have hl4_1 := Nat.le_of_lt hz4_1; have hz4_2 : w3.heap.size < w4.heap.size := lt_below hb4 (by first | with_reducible assumption | (simp; done) | (simp; omega)); have hl4_2 := Nat.le_of_lt hz4_2; have hA4 := bnext (w0 := w) (by (repeat (first | with_reducible assumption | with_reducible exact Below.refl _ _ | with_reducible refine Below.setCell ?_ (by first | omega | (dsimp only; omega) | (simp <;> omega)) _ | with_reducible refine Below.alloc ?_ (by first | omega | (simp <;> omega)) _ | with_reducible refine Below.drew ?_))) hb4; have hs4 := hA4.size; clear hb4)
    | (go_at_call 12; refine (c12 _ (hT.go (by (repeat (first | with_reducible assumption | with_reducible exact Below.refl _ _ | with_reducible refine Below.setCell ?_ (by first | omega | (dsimp only; omega) | (simp <;> omega)) _ | with_reducible refine Below.alloc ?_ (by first | omega | (simp <;> omega)) _ | with_reducible refine Below.drew ?_))))).mono ?_; rintro x w3 ⟨rfl, hb3⟩; obtain ⟨hc3, hf3⟩ := bcell hb3; have hz3_0 : w.heap.size < w3.heap.size := lt_below hb3 (by first | with_reducible assumption | (simp; done) | (simp; omega)); have hl3_0 := Nat.le_of_lt hz3_0; have hz3_1 : w2.heap.size < w3.heap.size := lt_below hb3 (by first | with_reducible assumption | (simp; done) | (simp; omega)); have hl3_1 := Nat.le_of_lt hz3_1; have hA3 := bnext (w0 := w) (by (repeat (first | with_reducible assumption | with_reducible exact Below.refl _ _ | with_reducible refine Below.setCell ?_ (by first | omega | (dsimp only; omega) | (simp <;> omega)) _ | with_reducible refine Below.alloc ?_ (by first | omega | (simp <;> omega)) _ | with_reducible refine Below.drew ?_))) hb3; have hs3 := hA3.size; clear hb3)
    | (go_at_call 10; refine (c10 _ (hT.go hA1)).mono ?_; rintro x w2 ⟨rfl, hb2⟩; obtain ⟨hc2, hf2⟩ := bcell hb2; have hz2_0 : w.heap.size < w2.heap.size := lt_below hb2 (by first | with_reducible assumption | (simp; done) | (simp; omega)); have hl2_0 := Nat.le_of_lt hz2_0; have hA2 := bnext (w0 := w) (by (repeat (first | with_reducible assumption | with_reducible exact Below.refl _ _ | with_reducible refine Below.setCell ?_ (by first | omega | (dsimp only; omega) | (simp <;> omega)) _ | with_reducible refine Below.alloc ?_ (by first | omega | (simp <;> omega)) _ | with_reducible refine Below.drew ?_))) hb2; have hs2 := hA2.size; clear hb2))
  go_loopw [11, 40] (fun d t wr => ∃ i : Nat, i ≤ 4 ∧ t = .int .i64 i ∧ d = .int .i64 (dif q (64 * i)) ∧ Four wr w.heap.size 0 B ∧ Four wr w3.heap.size 0 C ∧ Dc wr w2.heap.size c s g x k ∧ Dc wr w4.heap.size c s g x k ∧ Below w.heap.size w wr ∧ w4.heap.size < wr.heap.size) (fun _ t _ => 4 - (intOf t).toNat)
  case atStart => exact ⟨0, by decide, rfl, by rw [Nat.mul_zero, dif_zero], .of (by go_simp) (by go_simp) (by go_simp) (by go_simp), .of (by go_simp) (by go_simp) (by go_simp) (by go_simp), ⟨by go_simp, by go_simp, by go_simp, by go_simp, by go_simp, by go_simp, by go_simp, by go_simp⟩, ⟨by go_simp, by go_simp, by go_simp, by go_simp, by go_simp, by go_simp, by go_simp, by go_simp⟩, by (repeat (first | with_reducible assumption | with_reducible exact Below.refl _ _ | with_reducible refine Below.setCell ?_ (by first | omega | (dsimp only; omega) | (simp <;> omega)) _ | with_reducible refine Below.alloc ?_ (by first | omega | (simp <;> omega)) _ | with_reducible refine Below.drew ?_)), by simp⟩
  case round =>
    obtain ⟨i, hi, rfl, rfl, fB, fC, fD, fX, hbw, hsz⟩ := hrel
    by_cases h : i < 4
    · have hi4 : (i : Int) < 4 := by omega
      go_wp2
      go_loopw [11, 43] (fun d t wr => ∃ j : Nat, j ≤ 64 ∧ t = .int .i64 j ∧ d = .int .i64 (dif q (64 * i + j)) ∧ Four wr w.heap.size 0 B ∧ Four wr w3.heap.size 0 C ∧ Dc wr w2.heap.size c s g x k ∧ Dc wr w4.heap.size c s g x k ∧ Below w.heap.size w wr ∧ w4.heap.size < wr.heap.size) (fun _ t _ => 64 - (intOf t).toNat)
      case atStart => exact ⟨0, by decide, rfl, rfl, fB, fC, fD, fX, hbw, hsz⟩
      case round =>
        clear fB fC fD fX hbw hsz
        obtain ⟨j, hj, rfl, rfl, fB, fC, fD, fX, hbw, hsz⟩ := hrel
        have hl0 : w.heap.size < wr.heap.size := by omega
        have hl2 : w2.heap.size < wr.heap.size := by omega
        have hl3 : w3.heap.size < wr.heap.size := by omega
        by_cases hj6 : j < 64
        · have hj64 : (j : Int) < 64 := by omega
          have hBi := fB.cell i h
          have hCi := fC.cell i h
          rw [Nat.zero_add] at hBi hCi
          have hbt := hbit i j hj6
          have hdb := dif_bd q (64 * i + j)
          cases hcase : decide (64 * i + j = q) with
          | false =>
            rw [hcase] at hbt
            have hn := dif_next hcase
            go_wp2
            refine wp_whole (by kernel_rfl) (by kernel_rfl) fun hne hcell => ?_
            repeat go_big_quiet_step (fail)
            refine wpQuiet_nil fun w5 hb5 => ?_
            go_wp2
            go_roundw
            case rel => exact ⟨j + 1, by omega, by go_num, by rw [← hn]; rfl, fB.next hl0 hb5, fC.next hl3 hb5, fD.next hl2 hb5, fX.next hsz hb5, bnext hbw hb5, Nat.lt_of_lt_of_le hsz hb5.size⟩
            case measure => simp [intOf]; omega
          | true =>
            rw [hcase] at hbt
            have hn := dif_at hcase
            go_wp2
            refine wp_whole (by kernel_rfl) (by kernel_rfl) fun hne hcell => ?_
            repeat go_big_quiet_step (fail)
            refine wpQuiet_nil fun w5 hb5 => ?_
            go_wp2
            go_roundw
            case rel => exact ⟨j + 1, by omega, by go_num, by rw [show 64 * i + (j + 1) = 64 * i + j + 1 by omega, hn]; try go_num, fB.next hl0 hb5, fC.next hl3 hb5, fD.next hl2 hb5, fX.next hsz hb5, bnext hbw hb5, Nat.lt_of_lt_of_le hsz hb5.size⟩
            case measure => simp [intOf]; omega
        · obtain rfl : j = 64 := by omega
          go_wp2
          go_roundw
          case rel => exact ⟨i + 1, by omega, by go_num, by rw [Nat.mul_add], fB, fC, fD, fX, hbw, hsz⟩
          case measure => simp [intOf]; omega
    · obtain rfl : i = 4 := by omega
      obtain ⟨d0, d1, d2, d3, d4, d5, d6, d7⟩ := fD
      obtain ⟨x0, x1, x2, x3, x4, x5, x6, x7⟩ := fX
      rw [show 64 * 4 = 256 by decide, hq1]
      go_wp2
      go_ret
      exact ⟨rfl, hbw⟩
set_option maxHeartbeats 1000000 in
theorem signs_bad
    (c10 : ∀ w, Tab w → Calls Tryd.prog 10 #[.int .i64 n, A4 B] w fun r w' => r = .returned (.tuple #[DV c s g x k, .int .i64 1]) ∧ Below w.heap.size w w')
    : Calls Tryd.prog 8 #[.int .i64 n, A4 B] w fun x w' => x = .returned (.bool true) ∧ Below w.heap.size w w' := by
  go_enter Tryd.func8, Tryd.ntmps8
  go_wp2_with (first
    | (go_at_call 9; refine (awake_any _ (hT.alloc _)).mono ?_; rintro x w1 ⟨rfl, hb1⟩; obtain ⟨hc1, hf1⟩ := bcell hb1; have hz1_0 : w.heap.size < w1.heap.size := lt_below hb1 (by first | with_reducible assumption | (simp; done) | (simp; omega)); have hl1_0 := Nat.le_of_lt hz1_0; have hA1 := bnext (w0 := w) (by (repeat (first | with_reducible assumption | with_reducible exact Below.refl _ _ | with_reducible refine Below.setCell ?_ (by first | omega | (dsimp only; omega) | (simp <;> omega)) _ | with_reducible refine Below.alloc ?_ (by first | omega | (simp <;> omega)) _ | with_reducible refine Below.drew ?_))) hb1; have hs1 := hA1.size; clear hb1)
    | (go_at_call 10; refine (c10 _ (hT.go hA1)).mono ?_; rintro x w2 ⟨rfl, hb2⟩; obtain ⟨hc2, hf2⟩ := bcell hb2; have hz2_0 : w.heap.size < w2.heap.size := lt_below hb2 (by first | with_reducible assumption | (simp; done) | (simp; omega)); have hl2_0 := Nat.le_of_lt hz2_0; have hA2 := bnext (w0 := w) (by (repeat (first | with_reducible assumption | with_reducible exact Below.refl _ _ | with_reducible refine Below.setCell ?_ (by first | omega | (dsimp only; omega) | (simp <;> omega)) _ | with_reducible refine Below.alloc ?_ (by first | omega | (simp <;> omega)) _ | with_reducible refine Below.drew ?_))) hb2; have hs2 := hA2.size; clear hb2))
  go_ret
  exact ⟨rfl, by (repeat (first | with_reducible assumption | with_reducible exact Below.refl _ _ | with_reducible refine Below.setCell ?_ (by first | omega | (dsimp only; omega) | (simp <;> omega)) _ | with_reducible refine Below.alloc ?_ (by first | omega | (simp <;> omega)) _ | with_reducible refine Below.drew ?_))⟩
end
theorem binarySigns_any (n : Int) (B : Nat) (w : World) (hT : Tab w) (hB : B < 2 ^ 256) :
    Calls Tryd.prog 8 #[.int .i64 n, A4 B] w fun x w' => x = .returned (.bool true) ∧ Below w.heap.size w w' := by
  have c10 := fun w hT => unpack_any n B w hT hB
  by_cases hg : goodN n B
  · have e3 : unE n B = 0 := if_pos hg
    have hF := bin_fm hg.1
    obtain ⟨S, E, F, hS, hE, hFr, hBe⟩ := fields_in hg.2
    have hS' : 1 - S ≤ 1 := by omega
    have hu : unD n B = mean (fN n) (eN n) (leastN n) S E F := by
      unfold unD; rw [if_pos hg, hBe, unp_mean _ hS hE hFr]
    -- the same with the other sign
    have hC := (fields_of hS' hE hFr).2.2.2
    obtain ⟨C, hCe⟩ : ∃ C, C = E * 2 ^ fN n + F + (1 - S) * 2 ^ (fN n + eN n) := ⟨_, rfl⟩
    rw [← hCe] at hC
    have hgC : goodN n C := ⟨hg.1, hC⟩
    obtain ⟨b1, b2⟩ := back_un hgC
    have e4 : unE n C = 0 := if_pos hgC
    have huC : unD n C = mean (fN n) (eN n) (leastN n) (1 - S) E F := by
      unfold unD; rw [if_pos hgC, hCe, unp_mean _ hS' hE hFr]
    have hsame : ∃ c g x k, mean (fN n) (eN n) (leastN n) (1 - S) E F = ⟨c, decide (1 - S = 1), g, x, k⟩ ∧ mean (fN n) (eN n) (leastN n) S E F = ⟨c, decide (S = 1), g, x, k⟩ := by
      unfold mean spc
      by_cases h1 : E = 2 ^ eN n - 1
      · simp only [if_pos h1]
        by_cases h2 : F = 0
        · simp only [if_pos h2]; exact ⟨_, _, _, _, rfl, rfl⟩
        · simp only [if_neg h2]
          by_cases h3 : F < 2 ^ (fN n - 1)
          · simp only [if_pos h3]; exact ⟨_, _, _, _, rfl, rfl⟩
          · simp only [if_neg h3]; exact ⟨_, _, _, _, rfl, rfl⟩
      · simp only [if_neg h1]
        by_cases h2 : E = 0
        · simp only [if_pos h2]; exact ⟨_, _, _, _, rfl, rfl⟩
        · simp only [if_neg h2]; exact ⟨_, _, _, _, rfl, rfl⟩
    obtain ⟨c, g, x, k, m1, m2⟩ := hsame
    have hneg : decide (S = 1) = !decide (1 - S = 1) := by
      have : S = 0 ∨ S = 1 := by omega
      rcases this with rfl | rfl <;> rfl
    have c12 := fun w hT => pack_any n (unD n C) w hT (unD_k n C)
    have c10p := fun w hT => unpack_any n C w hT (good_256 hgC)
    rw [b1, b2, huC, m1] at c12
    rw [huC, m1, e4] at c10p
    rw [hu, m2, e3, hneg] at c10
    have hLq : E * 2 ^ fN n + F < 2 ^ (fN n + eN n) := by
      have : (E + 1) * 2 ^ fN n ≤ 2 ^ eN n * 2 ^ fN n := Nat.mul_le_mul_right _ hE
      rw [Nat.pow_add, Nat.mul_comm (2 ^ fN n)]
      rw [Nat.add_mul] at this
      omega
    have hq : fN n + eN n < 256 := by have := hF.fe; omega
    have hx : ∀ j, (B ^^^ C).testBit j = decide (j = fN n + eN n) := fun j => by rw [hBe, hCe]; exact flip_bit hS hLq j
    exact signs_ok n B C (fN n + eN n) w hT c x _ g k c10 c12 c10p hq (fun i k hk => xor_bit hx i k hk)
  · have e3 : unE n B = 1 := if_neg hg
    rw [e3] at c10
    exact signs_bad n B w hT _ _ _ _ _ c10
end Go.Proofs.YtemhpdhplbcgjaaDoor
