/-
  Division bit by bit: arithmetic.
-/
import Derived.Test.YtkbplchgaploeaaDoorFr
set_option linter.unusedVariables false
set_option linter.unusedSimpArgs false
namespace Go.Proofs.YtkbplchgaploeaaDoor
open Go.RowKit

theorem p64' (q r : Nat) : (18446744073709551616 : Int) ^ q * 2 ^ r = 2 ^ (64 * q + r) := by rw [Int.mul_comm]; exact p64 q r
/-- a number lies between two powers of two, by its length -/
theorem len_bd {x : Nat → Int} (hx : Words x) {n : Nat} (h : 0 < sizeL x n) : ∃ L : Nat, lenL x n = (L : Int) + 1 ∧ 2 ^ L ≤ val x n ∧ val x n < 2 ^ (L + 1) := by
  obtain ⟨j, hj⟩ : ∃ j, sizeL x n = j + 1 := ⟨sizeL x n - 1, by omega⟩
  have ht := sizeL_top (x := x) n h
  rw [hj] at ht
  have hxj := hx j
  have hne : x j ≠ 0 := ht
  obtain ⟨u, hu⟩ := Int.eq_ofNat_of_zero_le hxj.1
  have hb := bitLen_spec u (by omega) (by omega)
  have hv : val x n = val x j + x j * 18446744073709551616 ^ j := by rw [← val_bare n, hj]; rfl
  have hbd := val_bd hx j
  have hP := pw_pos j
  refine ⟨64 * j + (Lib.bitLen u - 1), ?_, ?_, ?_⟩
  · unfold lenL; rw [if_neg (by omega), hj]
    show 64 * ((j + 1 : Nat) : Int) - 64 + (Lib.bitLen (x j).toNat : Nat) = _
    rw [hu, Int.toNat_natCast]; omega
  · rw [hv, ← p64', hu]
    have h1 : (2 : Int) ^ (Lib.bitLen u - 1) ≤ u := by rw [← powCast]; omega
    have h2 : 18446744073709551616 ^ j * 2 ^ (Lib.bitLen u - 1) ≤ 18446744073709551616 ^ j * (u : Int) := Int.mul_le_mul_of_nonneg_left h1 (Int.le_of_lt hP)
    rw [Int.mul_comm _ (u : Int)] at h2
    omega
  · rw [hv, show 64 * j + (Lib.bitLen u - 1) + 1 = 64 * j + Lib.bitLen u by omega, ← p64', hu]
    have h1 : (u : Int) + 1 ≤ 2 ^ Lib.bitLen u := by rw [← powCast]; omega
    have h2 : 18446744073709551616 ^ j * ((u : Int) + 1) ≤ 18446744073709551616 ^ j * 2 ^ Lib.bitLen u := Int.mul_le_mul_of_nonneg_left h1 (Int.le_of_lt hP)
    rw [Int.mul_add, Int.mul_one, Int.mul_comm _ (u : Int)] at h2
    omega
theorem word_mod {q : Nat → Int} (hq : Words q) {N m r : Nat} (hm : m < N) (hr : r ≤ 64) (h : val q N % 2 ^ (64 * m + r) = 0) : q m % 2 ^ r = 0 := by
  obtain ⟨k, rfl⟩ : ∃ k, N = m + (k + 1) := ⟨N - m - 1, by omega⟩
  have hs := val_split q m (k + 1)
  have h1 : val (segW q m (k + 1)) (k + 1) = q m + val (segW q (m + 1) k) k * 18446744073709551616 := by
    have := val_split (segW q m (k + 1)) 1 k
    rw [Nat.add_comm 1 k] at this
    rw [this]
    have e1 : val (segW q m (k + 1)) 1 = q m := by simp [val, segW]
    have e2 : val (segW (segW q m (k + 1)) 1 k) k = val (segW q (m + 1) k) k := val_congr k fun i hi => by
      rw [segW_lt _ _ _ i hi, segW_lt _ _ _ i hi, segW_lt _ _ _ (1 + i) (by omega)]; congr 1; omega
    rw [e1, e2]; simp
  have hb := val_bd hq m
  rw [← p64'] at h
  have hd : (18446744073709551616 : Int) ^ m * 2 ^ r ∣ val q (m + (k + 1)) := Int.dvd_of_emod_eq_zero h
  obtain ⟨c, hc⟩ := hd
  rw [hs] at hc
  have hm0 : val q m = 0 := by
    have e : val q m = (2 ^ r * c - val (segW q m (k + 1)) (k + 1)) * 18446744073709551616 ^ m := by grind
    rcases Int.lt_trichotomy (2 ^ r * c - val (segW q m (k + 1)) (k + 1)) 0 with hl | he | hg
    · have : (2 ^ r * c - val (segW q m (k + 1)) (k + 1)) * 18446744073709551616 ^ m ≤ (-1) * 18446744073709551616 ^ m := Int.mul_le_mul_of_nonneg_right (by omega) (Int.le_of_lt (pw_pos m))
      have := pw_pos m
      omega
    · rw [he, Int.zero_mul] at e; exact e
    · have : 1 * 18446744073709551616 ^ m ≤ (2 ^ r * c - val (segW q m (k + 1)) (k + 1)) * 18446744073709551616 ^ m := Int.mul_le_mul_of_nonneg_right (by omega) (Int.le_of_lt (pw_pos m))
      omega
  have h2 : val (segW q m (k + 1)) (k + 1) = 2 ^ r * c := by
    have hp := pw_pos m
    have e : (val (segW q m (k + 1)) (k + 1) - 2 ^ r * c) * 18446744073709551616 ^ m = 0 := by grind
    rcases Int.mul_eq_zero.1 e with h3 | h3
    · omega
    · omega
  rw [h1] at h2
  have e3 := p2_split hr
  have : q m = 2 ^ r * (c - val (segW q (m + 1) k) k * 2 ^ (64 - r)) := by
    rw [← e3] at h2; grind
  rw [this]; exact Int.mul_emod_right _ _
theorem or_bit {u : Int} {r : Nat} (hu : 0 ≤ u ∧ u ≤ 18446744073709551615) (hr : r < 64) (h : u % 2 ^ (r + 1) = 0) : orW u (2 ^ r) = u + 2 ^ r ∧ u + 2 ^ r ≤ 18446744073709551615 := by
  have hp := p2_pos r
  have hl := p2_le hr
  obtain ⟨n, rfl⟩ := Int.eq_ofNat_of_zero_le hu.1
  rw [← powCast, ← Int.natCast_emod] at h
  have hn : n % 2 ^ (r + 1) = 0 := by omega
  obtain ⟨k, rfl⟩ := Nat.dvd_of_mod_eq_zero hn
  have hlt : 2 ^ r < 2 ^ (r + 1) := Nat.pow_lt_pow_right (by omega) (by omega)
  have e := Nat.two_pow_add_eq_or_of_lt hlt k
  have h64 : 2 ^ (r + 1) * k ||| 2 ^ r < 2 ^ 64 := Nat.or_lt_two_pow (by omega) (Nat.pow_lt_pow_right (by omega) hr)
  have hw : (2 : Int) ^ r ≤ 18446744073709551615 := by omega
  rw [orW_eq _ _ hu ⟨by omega, hw⟩, Int.toNat_natCast, ← powCast, Int.toNat_natCast, ← e]
  rw [← e] at h64
  constructor
  · rw [Int.natCast_add]
  · have : ((2 ^ (r + 1) * k : Nat) : Int) + ((2 ^ r : Nat) : Int) = ((2 ^ (r + 1) * k + 2 ^ r : Nat) : Int) := by rw [Int.natCast_add]
    rw [this]; omega
theorem mod_half {Q T : Int} (h : Q % (T * 2) = 0) : Q % T = 0 := by
  obtain ⟨c, hc⟩ := Int.dvd_of_emod_eq_zero h
  rw [hc, Int.mul_assoc]; exact Int.mul_emod_right _ _
end Go.Proofs.YtkbplchgaploeaaDoor
