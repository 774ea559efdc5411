/-
  Texts that the proof leans on, joined: Tb, Wm, Xm, Kb, Mc, Md, Sa, Wa, Npo, Str.
-/
import Derived.Test.YtplocajjfoiklaaGreatDoorJ26
import Derived.Test.YtplocajjfoiklaaGreatDoorJ9
import Derived.Test.YtplocajjfoiklaaGreatDoorJ14
import Derived.Test.YtplocajjfoiklaaGreatDoorJ15
import Derived.Test.YtplocajjfoiklaaGreatDoorJ20
import Derived.Test.YtplocajjfoiklaaGreatDoorJ16
import Derived.Test.YtplocajjfoiklaaGreatDoorJ1
import Derived.Test.YtplocajjfoiklaaGreatDoorJ3
import Derived.Test.YtplocajjfoiklaaGreatDoorJ4
import Derived.Lib.RabinKarpLaws
import Derived.Test.YtplocajjfoiklaaGreatDoorJ6
set_option linter.unusedVariables false
set_option linter.unusedSectionVars false
set_option linter.unusedSimpArgs false
set_option maxRecDepth 20000
namespace Go.Proofs.YtplocajjfoiklaaGreatDoor
open Go.RowKit

/-! the other sign -/
/-! a number of the format -/
theorem ld_mul {k b : Nat} (hk : k ≠ 0) (hb : b ≠ 0) : ld (k * b) b = (bl k : Int) - 1 := by
  obtain ⟨k1, k2, k3⟩ := bl_bd hk
  have hkb : k * b ≠ 0 := Nat.mul_ne_zero hk hb
  obtain ⟨K, hK⟩ : ∃ K : Nat, K = bl b + 2 + bl (k * b) := ⟨_, rfl⟩
  obtain ⟨h1, h2⟩ := ld_bd hkb hb K (by omega)
  have hl : (bl (k * b) : Int) - bl b - 1 ≤ ld (k * b) b ∧ ld (k * b) b ≤ (bl (k * b) : Int) - bl b := by
    unfold ld; dsimp only; split <;> omega
  have hbp : 0 < b := Nat.pos_of_ne_zero hb
  rw [Nat.mul_right_comm, Nat.mul_comm (k * 2 ^ K) b] at h1 h2
  have h1' := Nat.le_of_mul_le_mul_left h1 hbp
  have h2' := Nat.lt_of_mul_lt_mul_left h2
  have a1 : 2 ^ ((K : Int) + ld (k * b) b).toNat < 2 ^ (bl k + K) := by
    rw [Nat.pow_add]
    exact Nat.lt_of_le_of_lt h1' (Nat.mul_lt_mul_of_pos_right k2 (Nat.two_pow_pos _))
  have a2 : 2 ^ (bl k - 1 + K) < 2 ^ ((K : Int) + ld (k * b) b + 1).toNat := by
    rw [Nat.pow_add]
    exact Nat.lt_of_le_of_lt (Nat.mul_le_mul_right _ k1) h2'
  have b1 := (Nat.pow_lt_pow_iff_right (by decide : 1 < 2)).1 a1
  have b2 := (Nat.pow_lt_pow_iff_right (by decide : 1 < 2)).1 a2
  omega
theorem keep_eq {n : Int} (d : Int) {s : Bool} {q : Int} {k b : Nat} (hbn : binN n) (h : isD (fN n) (leastN n) (mostN n) ⟨1, s, false, q, k⟩) (hb : b ≠ 0) : rdV n d s (k * b) b q = pkV n ⟨1, s, false, q, k⟩ ∧ rdF n d s (k * b) b q = 0 := by
  rw [pk_fin hbn h]
  have hF := bin_fm hbn
  have hp := pow_e hF.e2 hF.e15
  have hm := hF.m
  rcases h with ⟨_, _, hk1, hx1, hx2, hx3⟩ | ⟨hc, _⟩ | ⟨hc, _⟩
  · dsimp only at hk1 hx1 hx2 hx3
    by_cases hk : k = 0
    · subst hk
      rw [Nat.zero_mul, (r_zero d s b q hbn).1, (r_zero d s b q hbn).2]
      have : q = leastN n := by
        rcases hx3 with h | h
        · have := Nat.two_pow_pos (fN n); omega
        · exact h
      rw [this]; simp
    · have hkb : k * b ≠ 0 := Nat.mul_ne_zero hk hb
      have hL := ld_mul hk hb
      obtain ⟨k1, k2, k3⟩ := bl_bd hk
      have hbl : bl k ≤ fN n + 1 := bl_le.2 hk1
      have hX : rX n (k * b) b q = q := by
        unfold rX wiZ; rw [hL]; omega
      have hQ : rQ n (k * b) b q = q := by
        unfold rQ; rw [hX, hL]
        rcases hx3 with h | h
        · have : fN n < bl k := bl_ge.2 h
          omega
        · omega
      have hq0 : nrQ (k * b) b (q - q) = k ∧ nrR (k * b) b (q - q) = 0 := by
        unfold nrQ nrR
        rw [Int.sub_self]
        simp
        exact Nat.mul_div_cancel _ (Nat.pos_of_ne_zero hb)
      have hFF : nrF d s (k * b) b (q - q) = false := by
        unfold nrF faB; rw [hq0.2]; rfl
      have hPP : rP n d s (k * b) b q = (q - leastN n).toNat * 2 ^ fN n + k := by
        rw [rP_eq]; unfold rB; rw [hX, hQ, hFF, hq0.1]; simp
      have hno : ¬ tpN n ≤ rP n d s (k * b) b q := by
        rw [hPP]
        unfold tpN
        have hpc : ((2 : Int) ^ eN n) = ((2 ^ eN n : Nat) : Int) := by simp
        rw [hpc] at hp hm
        rw [Nat.pow_succ] at hk1
        have h3 : ((q - leastN n).toNat + 2) * 2 ^ fN n ≤ (2 ^ eN n - 1) * 2 ^ fN n := Nat.mul_le_mul_right _ (by omega)
        rw [Nat.add_mul] at h3
        omega
      rw [r_pat d s q hbn hkb hb, r_flag d s q hbn hkb hb]
      unfold capV
      rw [if_neg hno, if_neg hno, hPP, hX, hQ, hq0.2]
      exact ⟨rfl, rfl⟩
  · exact absurd (show (1 : Int) = 2 from hc) (by decide)
  · exact absurd (show (1 : Int) = 3 from hc) (by decide)
end Go.Proofs.YtplocajjfoiklaaGreatDoor

namespace Go.Proofs.YtplocajjfoiklaaGreatDoor
open Go.RowKit

def whC (d : Int) (s : Bool) (A B : Nat) : Nat := if faB d s (decide (A / B % 2 = 1)) (A % B) B then A / B + 1 else A / B
theorem sc_frac (N D a b : Nat) {n : Int} (h : (a : Int) - b = n) : ∃ κ, N * 2 ^ a = N * 2 ^ n.toNat * 2 ^ κ ∧ D * 2 ^ b = D * 2 ^ (-n).toNat * 2 ^ κ := by
  refine ⟨a - n.toNat, ?_, ?_⟩
  · rw [Nat.mul_assoc, ← Nat.pow_add]; congr 2; omega
  · rw [Nat.mul_assoc, ← Nat.pow_add]; congr 2; omega
theorem fa_sc (d : Int) (s o : Bool) (R D k : Nat) (hk : 0 < k) : faB d s o (R * k) (D * k) = faB d s o R D := by
  have e1 : R * k = 0 ↔ R = 0 := by rw [Nat.mul_eq_zero]; omega
  have e2 : D * k < R * k + R * k ↔ D < R + R := by rw [← Nat.add_mul]; exact Nat.mul_lt_mul_right hk
  have e3 : R * k + R * k = D * k ↔ R + R = D := by rw [← Nat.add_mul]; exact Nat.mul_right_cancel_iff hk
  have e4 : D * k ≤ R * k + R * k ↔ D ≤ R + R := by rw [← Nat.add_mul]; exact Nat.mul_le_mul_right_iff hk
  unfold faB
  simp only [e1, e2, e3, e4]
theorem wh_sc (d : Int) (s : Bool) (N D a b : Nat) {n : Int} (h : (a : Int) - b = n) : whC d s (N * 2 ^ a) (D * 2 ^ b) = nrC d s N D n ∧ (N * 2 ^ a % (D * 2 ^ b) = 0 ↔ nrR N D n = 0) := by
  obtain ⟨κ, e1, e2⟩ := sc_frac N D a b h
  have hk := Nat.two_pow_pos κ
  rw [e1, e2]
  unfold whC nrC nrF nrQ nrR
  rw [Nat.mul_div_mul_right _ _ hk, Nat.mul_mod_mul_right, fa_sc d s _ _ _ _ hk]
  refine ⟨rfl, ?_⟩
  rw [Nat.mul_eq_zero]; omega
theorem bl_shift {V : Nat} (h : V ≠ 0) (a : Nat) : bl (V * 2 ^ a) = bl V + a := by
  obtain ⟨h1, h2, h3⟩ := bl_bd h
  refine bl_eq ?_ ?_
  · rw [show bl V + a - 1 = (bl V - 1) + a by omega, Nat.pow_add]
    exact Nat.mul_le_mul_right _ h1
  · rw [Nat.pow_add]
    exact Nat.mul_lt_mul_of_pos_right h2 (Nat.two_pow_pos _)
theorem ld_shift {N D : Nat} (hN : N ≠ 0) (hD : D ≠ 0) (a b : Nat) : ld (N * 2 ^ a) (D * 2 ^ b) = ld N D + ((a : Int) - b) := by
  unfold ld
  dsimp only
  rw [bl_shift hN, bl_shift hD]
  obtain ⟨p, hp⟩ : ∃ p : Int, (bl N : Int) - bl D = p := ⟨_, rfl⟩
  obtain ⟨p', hp'⟩ : ∃ p' : Int, ((bl N + a : Nat) : Int) - ((bl D + b : Nat) : Int) = p' := ⟨_, rfl⟩
  rw [hp, hp']
  have hpp : p' = p + ((a : Int) - b) := by omega
  obtain ⟨κ, e1, e2⟩ := sc_frac N D (a + (-p').toNat) (b + p'.toNat) (n := -p) (by omega)
  rw [Nat.pow_add, ← Nat.mul_assoc] at e1 e2
  rw [Int.neg_neg] at e2
  rw [e1, e2]
  have hk := Nat.two_pow_pos κ
  by_cases h : N * 2 ^ (-p).toNat < D * 2 ^ p.toNat
  · rw [if_pos h, if_pos (Nat.mul_lt_mul_of_pos_right h hk)]; omega
  · rw [if_neg h, if_neg (fun hh => h (Nat.lt_of_mul_lt_mul_right hh))]; omega
theorem fld_bd {n : Int} (hb : binN n) : -17000 ≤ leastN n ∧ leastN n ≤ mostN n ∧ mostN n ≤ 17000 ∧ fN n ≤ 240 ∧ 1 ≤ fN n := by
  rcases bin_cases hb with rfl | rfl | rfl | rfl | rfl | rfl <;> simp [leastN, mostN, fN, precN]
end Go.Proofs.YtplocajjfoiklaaGreatDoor

namespace Go.Proofs.YtplocajjfoiklaaGreatDoor
open Go.RowKit

theorem nr_shift (d : Int) (s : Bool) (N D a b : Nat) (k : Int) : nrC d s (N * 2 ^ a) (D * 2 ^ b) k = nrC d s N D (k + ((a : Int) - b)) ∧ (nrR (N * 2 ^ a) (D * 2 ^ b) k = 0 ↔ nrR N D (k + ((a : Int) - b)) = 0) := by
  have h := wh_sc d s N D (a + k.toNat) (b + (-k).toNat) (n := k + ((a : Int) - b)) (by omega)
  rw [Nat.pow_add, Nat.pow_add, ← Nat.mul_assoc, ← Nat.mul_assoc] at h
  exact h
theorem rX_shift {n : Int} {N D : Nat} (hN : N ≠ 0) (hD : D ≠ 0) (a b : Nat) (x : Int) : rX n (N * 2 ^ a) (D * 2 ^ b) x = rX n N D (x + ((a : Int) - b)) - ((a : Int) - b) := by
  unfold rX wiZ
  rw [ld_shift hN hD]
  omega
theorem rd_shift (n d : Int) (s : Bool) (N : Nat) {D : Nat} (hD : D ≠ 0) (a b : Nat) (x : Int) : rdV n d s (N * 2 ^ a) (D * 2 ^ b) x = rdV n d s N D (x + ((a : Int) - b)) ∧ rdF n d s (N * 2 ^ a) (D * 2 ^ b) x = rdF n d s N D (x + ((a : Int) - b)) := by
  by_cases hN : N = 0
  · subst hN
    rw [Nat.zero_mul]
    unfold rdV rdF
    rw [if_pos rfl, if_pos rfl, if_pos rfl, if_pos rfl]
    exact ⟨rfl, rfl⟩
  have hN' : N * 2 ^ a ≠ 0 := Nat.mul_ne_zero hN (Nat.pos_iff_ne_zero.1 (Nat.two_pow_pos _))
  have eX := rX_shift (n := n) hN hD a b x
  have eL := ld_shift hN hD a b
  have eQ : rQ n (N * 2 ^ a) (D * 2 ^ b) x = rQ n N D (x + ((a : Int) - b)) := by
    unfold rQ; rw [eX, eL]; congr 1; omega
  have hk := nr_shift d s N D a b (rX n (N * 2 ^ a) (D * 2 ^ b) x - rQ n (N * 2 ^ a) (D * 2 ^ b) x)
  rw [show rX n (N * 2 ^ a) (D * 2 ^ b) x - rQ n (N * 2 ^ a) (D * 2 ^ b) x + ((a : Int) - b) = rX n N D (x + ((a : Int) - b)) - rQ n N D (x + ((a : Int) - b)) by rw [eX, eQ]; omega] at hk
  have eC : rC n d s (N * 2 ^ a) (D * 2 ^ b) x = rC n d s N D (x + ((a : Int) - b)) := hk.1
  have eC' : rC' n d s (N * 2 ^ a) (D * 2 ^ b) x = rC' n d s N D (x + ((a : Int) - b)) := by unfold rC'; rw [eC]
  have eQ' : rQ' n d s (N * 2 ^ a) (D * 2 ^ b) x = rQ' n d s N D (x + ((a : Int) - b)) := by unfold rQ'; rw [eC, eQ]
  have eS : ld (N * 2 ^ a) (D * 2 ^ b) + rX n (N * 2 ^ a) (D * 2 ^ b) x = ld N D + rX n N D (x + ((a : Int) - b)) := by rw [eX, eL]; omega
  unfold rdV rdF
  rw [if_neg hN, if_neg hN, if_neg hN', if_neg hN', eC', eQ', eS]
  refine ⟨rfl, ?_⟩
  simp only [hk.2]
/-- the fraction of a number and a power of ten, its twos apart -/
def tN (A : Nat) (e : Int) : Nat := A * 5 ^ e.toNat
def tD (e : Int) : Nat := 5 ^ (-e).toNat
/-- the exponent as the program takes it, and as the document does -/
def pwE (L : Nat) (e : Int) : Int := min (max e (-6000 - L)) (6000 - L)
end Go.Proofs.YtplocajjfoiklaaGreatDoor

namespace Go.Proofs.YtplocajjfoiklaaGreatDoor
open Go.RowKit

/-- how many hexadecimal digits stand behind the point, with noughts at the end; their number; without these noughts -/
def hbC (k : Nat) : Nat := (bl k - 1 + 3) / 4
def hbR (k : Nat) : Nat := k % 2 ^ (bl k - 1) * 2 ^ (4 * hbC k - (bl k - 1))
def hbD (k : Nat) : List UInt8 := hxS (hxL (hbR k) (hbC k))
theorem p16 (c : Nat) : (16 : Nat) ^ c = 2 ^ (4 * c) := by rw [Nat.pow_mul]
theorem hbC_le (k : Nat) : bl k - 1 ≤ 4 * hbC k := by unfold hbC; omega
theorem hbR_lt (k : Nat) : hbR k < 16 ^ hbC k := by
  unfold hbR
  have h1 := hbC_le k
  have h2 : k % 2 ^ (bl k - 1) < 2 ^ (bl k - 1) := Nat.mod_lt _ (Nat.two_pow_pos _)
  rw [p16, show (2 : Nat) ^ (4 * hbC k) = 2 ^ (bl k - 1) * 2 ^ (4 * hbC k - (bl k - 1)) by rw [← Nat.pow_add]; congr 1; omega]
  exact Nat.mul_lt_mul_of_pos_right h2 (Nat.two_pow_pos _)
theorem hb_top {k : Nat} (h : k ≠ 0) : k = 2 ^ (bl k - 1) + k % 2 ^ (bl k - 1) := by
  have hb : bl k ≠ 0 := fun e => h (bl_zero.1 e)
  have h1 : 2 ^ (bl k - 1) ≤ k := bl_ge.1 (by omega)
  have h2 : k < 2 ^ bl k := bl_le.1 (Nat.le_refl _)
  have h3 : 2 ^ bl k = 2 ^ (bl k - 1) * 2 := by rw [← Nat.pow_succ]; congr 1; omega
  have h4 : k / 2 ^ (bl k - 1) = 1 := by
    refine Nat.div_eq_of_lt_le (by omega) (by omega)
  have := Nat.div_add_mod k (2 ^ (bl k - 1))
  rw [h4, Nat.mul_one] at this
  exact this.symm
theorem hbD_facts (k : Nat) : (hbD k).all hxB = true ∧ (hbD k).length ≤ hbC k ∧ hbR k = hxV (hbD k) * 16 ^ (hbC k - (hbD k).length) := by
  obtain ⟨h1, h2, h3⟩ := hxS_val (hxL_all (hbR k) (hbC k))
  rw [hxL_val (hbR_lt k), hxL_len] at h3
  rw [hxL_len] at h2
  exact ⟨h1, h2, h3⟩
/-- what the digits mean -/
theorem hb_means {k : Nat} (h : k ≠ 0) : (16 ^ (hbD k).length + hxV (hbD k)) * 2 ^ (bl k - 1) = k * 2 ^ (4 * (hbD k).length) := by
  obtain ⟨d1, d2, d3⟩ := hbD_facts k
  have ht := hb_top h
  have hc := hbC_le k
  have e1 : hbR k * 2 ^ (bl k - 1) = k % 2 ^ (bl k - 1) * 16 ^ hbC k := by
    unfold hbR
    rw [p16, Nat.mul_assoc, ← Nat.pow_add]
    congr 2
    omega
  have e2 : (16 : Nat) ^ hbC k = 16 ^ (hbD k).length * 16 ^ (hbC k - (hbD k).length) := by rw [← Nat.pow_add]; congr 1; omega
  have hp : 0 < 16 ^ (hbC k - (hbD k).length) := Nat.pow_pos (by decide)
  refine Nat.eq_of_mul_eq_mul_right hp ?_
  rw [← p16]
  generalize hbD k = D at *
  generalize hbR k = R at *
  generalize (16 : Nat) ^ (hbC k - D.length) = p at *
  generalize (16 : Nat) ^ D.length = q at *
  generalize (16 : Nat) ^ hbC k = t at *
  generalize k % 2 ^ (bl k - 1) = r at *
  generalize (2 : Nat) ^ (bl k - 1) = u at *
  subst d3 e2
  have : (q + hxV D) * u * p = q * u * p + hxV D * p * u := by grind
  rw [this, e1, ht]
  grind
/-- the text of a number, but for its sign; of 0 -/
def hbT (k : Nat) (x : Int) : List UInt8 := [48, 120, 49] ++ (if hbD k = [] then [] else 46 :: hbD k) ++ [112] ++ (if 0 ≤ x + bl k - 1 then [43] else []) ++ Lib.itoa (x + bl k - 1)
def hbZ : List UInt8 := [48, 120, 48, 112, 43, 48]
/-- it is rounded to the number itself, in any direction, without flags -/
theorem hb_keeps {n : Int} (d : Int) {s : Bool} {q : Int} {k : Nat} (hbn : binN n) (h : isD (fN n) (leastN n) (mostN n) ⟨1, s, false, q, k⟩) (h0 : k ≠ 0) :
    rdV n d s (16 ^ (hbD k).length + hxV (hbD k)) 1 (q + bl k - 1 - 4 * (hbD k).length) = pkV n ⟨1, s, false, q, k⟩ ∧ rdF n d s (16 ^ (hbD k).length + hxV (hbD k)) 1 (q + bl k - 1 - 4 * (hbD k).length) = 0 := by
  have hm := hb_means h0
  have hb : bl k ≠ 0 := fun e => h0 (bl_zero.1 e)
  obtain ⟨k1, k2⟩ := keep_eq d hbn h (b := 2 ^ (4 * (hbD k).length)) (Nat.ne_of_gt (Nat.two_pow_pos _))
  obtain ⟨s1, s2⟩ := rd_shift n d s (16 ^ (hbD k).length + hxV (hbD k)) (D := 1) (by decide) (bl k - 1) (4 * (hbD k).length) q
  rw [hm, Nat.one_mul] at s1 s2
  rw [k1] at s1
  rw [k2] at s2
  rw [show q + bl k - 1 - 4 * ((hbD k).length : Int) = q + (((bl k - 1 : Nat) : Int) - ((4 * (hbD k).length : Nat) : Int)) by omega]
  exact ⟨s1.symm, s2.symm⟩
end Go.Proofs.YtplocajjfoiklaaGreatDoor

namespace Go.Proofs.YtplocajjfoiklaaGreatDoor
open Go.RowKit

theorem lenL_bl {A : Nat} (hA : A < 2 ^ 256) : lenL (W4 A) 4 = (bl A : Int) := by
  have h0 : 0 ≤ lenL (W4 A) 4 := by
    by_cases h : lenL (W4 A) 4 = 0
    · omega
    · have h1 := len4_le (A := A) (k := 0) hA
      by_cases h2 : 0 < sizeL (W4 A) 4
      · obtain ⟨L, h1, _⟩ := len_bd (W4_words A) h2
        omega
      · exact absurd (by unfold lenL; rw [if_pos (by omega)]) h
  obtain ⟨L, hL⟩ := Int.eq_ofNat_of_zero_le h0
  have a1 := (len4_le (A := A) (k := L) hA).1 (by omega)
  have a2 := (len4_le (A := A) (k := bl A) hA).2 (bl_le.1 (Nat.le_refl _))
  have a3 := bl_le.2 a1
  omega
/-- the digits, from the highest bit on: the number with its highest bit just above them -/
theorem hb_shift {k : Nat} (h : k ≠ 0) : k * 2 ^ (4 * hbC k - (bl k - 1)) = 16 ^ hbC k + hbR k := by
  have ht := hb_top h
  have hc := hbC_le k
  unfold hbR
  rw [p16, show (2 : Nat) ^ (4 * hbC k) = 2 ^ (bl k - 1) * 2 ^ (4 * hbC k - (bl k - 1)) by rw [← Nat.pow_add]; congr 1; omega, ← Nat.add_mul, ← ht]
theorem hb_nib {c R i : Nat} (hi : i < c) : (16 ^ c + R) / 16 ^ i % 16 = R / 16 ^ i % 16 := by
  obtain ⟨m, rfl⟩ : ∃ m, c = i + 1 + m := ⟨c - i - 1, by omega⟩
  rw [show (16 : Nat) ^ (i + 1 + m) = 16 ^ i * (16 * 16 ^ m) by rw [Nat.pow_add, Nat.pow_succ]; grind, Nat.mul_add_div (Nat.pow_pos (by decide)), Nat.mul_add_mod]
/-- a digit out of the words -/
theorem nib_w (S q r : Nat) (hr : r < 16) : bits BinOp.and IntKind.u64 (W4 S q / 2 ^ (4 * r)) 15 = ((S / 16 ^ (16 * q + r) % 16 : Nat) : Int) := by
  have hw := W4_words S q
  have h1 : (0 : Int) ≤ W4 S q / 2 ^ (4 * r) := Int.ediv_nonneg hw.1 (Int.le_of_lt (Int.pow_pos (by decide)))
  have h2 : W4 S q / 2 ^ (4 * r) ≤ W4 S q := Int.ediv_le_self _ hw.1
  rw [show (15 : Int) = 2 ^ 4 - 1 by decide, and_mask ⟨h1, by omega⟩ (by decide)]
  unfold W4
  rw [show (2 : Int) ^ (4 * r) = ((2 ^ (4 * r) : Nat) : Int) by simp, ← Int.natCast_ediv, show (2 : Int) ^ 4 = ((16 : Nat) : Int) by decide, ← Int.natCast_emod]
  congr 1
  have e : (18446744073709551616 : Nat) = 2 ^ (4 * r) * (16 * 2 ^ (60 - 4 * r)) := by
    rw [show (16 : Nat) = 2 ^ 4 by decide, ← Nat.pow_add, ← Nat.pow_add, show 4 * r + (4 + (60 - 4 * r)) = 64 by omega]
  rw [e, Nat.mod_mul_right_div_self, Nat.mod_mul_right_mod, Nat.div_div_eq_div_mul, ← Nat.pow_add, p16]
  congr 3
  omega
theorem hxL_next {R c j : Nat} (h : j < c) : (hxL R c).take (j + 1) = (hxL R c).take j ++ [hxd (R / 16 ^ (c - 1 - j) % 16)] := by
  have h1 := hxL_get (N := R) h
  have h2 : j < (hxL R c).length := by rw [hxL_len]; exact h
  rw [List.getElem?_eq_getElem h2] at h1
  rw [List.take_succ_eq_append_getElem h2, Option.some.inj h1]
end Go.Proofs.YtplocajjfoiklaaGreatDoor

namespace Go.Proofs.YtplocajjfoiklaaGreatDoor
open Go.RowKit

attribute [local irreducible] W4
set_option maxHeartbeats 4000000 in
theorem bh_v {k : Nat} (hk0 : k ≠ 0) (hk : bl k ≤ 241) (w : World) (hT : TbZ w) : Calls Tryz.prog 56 #[A4 k] w fun e w' => e = .returned (.string (B (hbD k))) ∧ Below w.heap.size w w' := by
  have hA : k < 2 ^ 256 := bl_le.1 (by omega)
  have hn1 : bl k ≠ 0 := fun e => hk0 (bl_zero.1 e)
  obtain ⟨n, hn⟩ : ∃ n, bl k = n := ⟨_, rfl⟩
  obtain ⟨c, hc⟩ : ∃ c, hbC k = c := ⟨_, rfl⟩
  obtain ⟨R, hR⟩ : ∃ R, hbR k = R := ⟨_, rfl⟩
  have hcn : c = (n - 1 + 3) / 4 := by rw [← hc, ← hn]; rfl
  obtain ⟨m, hm⟩ : ∃ m, 4 * c - (n - 1) = m := ⟨_, rfl⟩
  have hS := hb_shift hk0
  have HD : Hid (hbD k = hxS (hxL R c)) := by show _ = _; rw [← hR, ← hc]; rfl
  rw [hc, hn, hm, hR] at hS
  have c55 := fun W => len4' k W
  rw [lenL_bl hA, hn] at c55
  have c113 := fun W => shl4 k m W hA (by omega)
  rw [hS] at c113
  have HN : Hid (∀ i, i < c → (16 ^ c + R) / 16 ^ i % 16 = R / 16 ^ i % 16) := fun i hi => hb_nib hi
  obtain ⟨S, hSS⟩ : ∃ S, 16 ^ c + R = S := ⟨_, rfl⟩
  rw [hSS] at c113 HN
  rw [hn] at hk hn1
  have e1 : ((n : Int) - 1 + 3) / 4 = c := by omega
  have e2 : (4 : Int) * c - (n - 1) = m := by omega
  have hnb : 1 ≤ (n : Int) ∧ (n : Int) ≤ 241 := by omega
  have hcb : (c : Int) ≤ 60 := by omega
  have hsm := cell_set_map
  clear hS hSS hR hc hn hcn hm hk0 hA
  go_enter Tryz.func56, Tryz.ntmps56
  go_wp2_with (first
    | (go_at_call 55; refine (c55 _).mono ?_; rintro r w1 ⟨rfl, hb1⟩; obtain ⟨hc1, hf1⟩ := bcell hb1; have hz1_0 : w.heap.size < w1.heap.size := lt_below hb1 ltg; have hl1_0 := Nat.le_of_lt hz1_0; have hA1 := bnext (w0 := w) bgo hb1; have hs1 := hA1.size; clear hb1)
    | (go_at_call 113; refine (c113 _).mono ?_; rintro r w2 ⟨rfl, hb2⟩; obtain ⟨hc2, hf2⟩ := bcell hb2; have hz2_0 : w.heap.size < w2.heap.size := lt_below hb2 ltg; have hl2_0 := Nat.le_of_lt hz2_0; have hA2 := bnext (w0 := w) bgo hb2; have hs2 := hA2.size; clear hb2))
  have K : ∀ q, q < 4 → ((((w2.setCell ⟨w.heap.size, 0, none⟩ (.int .u64 (W4 S 0))).setCell ⟨w.heap.size, 1, none⟩ (.int .u64 (W4 S 1))).setCell ⟨w.heap.size, 2, none⟩ (.int .u64 (W4 S 2))).setCell ⟨w.heap.size, 3, none⟩ (.int .u64 (W4 S 3))).cell? ⟨w.heap.size, q, none⟩ = some (.int .u64 (W4 S q)) := by
    intro q hq
    have hor : q = 0 ∨ q = 1 ∨ q = 2 ∨ q = 3 := by omega
    rcases hor with rfl | rfl | rfl | rfl <;> go_simp
  have HB3 : Below w.heap.size w ((((w2.setCell ⟨w.heap.size, 0, none⟩ (.int .u64 (W4 S 0))).setCell ⟨w.heap.size, 1, none⟩ (.int .u64 (W4 S 1))).setCell ⟨w.heap.size, 2, none⟩ (.int .u64 (W4 S 2))).setCell ⟨w.heap.size, 3, none⟩ (.int .u64 (W4 S 3))) := bgo
  have hz3 : w.heap.size + 1 ≤ ((((w2.setCell ⟨w.heap.size, 0, none⟩ (.int .u64 (W4 S 0))).setCell ⟨w.heap.size, 1, none⟩ (.int .u64 (W4 S 1))).setCell ⟨w.heap.size, 2, none⟩ (.int .u64 (W4 S 2))).setCell ⟨w.heap.size, 3, none⟩ (.int .u64 (W4 S 3))).heap.size := by simp; omega
  generalize ((((w2.setCell ⟨w.heap.size, 0, none⟩ (.int .u64 (W4 S 0))).setCell ⟨w.heap.size, 1, none⟩ (.int .u64 (W4 S 1))).setCell ⟨w.heap.size, 2, none⟩ (.int .u64 (W4 S 2))).setCell ⟨w.heap.size, 3, none⟩ (.int .u64 (W4 S 3))) = w3 at *
  clear hc1 hf1 hc2 hf2 hsm c55 c113
  have HW : Hid (∀ q r, r < 16 → bits BinOp.and IntKind.u64 (W4 S q / 2 ^ (4 * r)) 15 = ((S / 16 ^ (16 * q + r) % 16 : Nat) : Int)) := fun q r hr => nib_w S q r hr
  have HX : Hid (∀ j, j < c → (hxL R c).take (j + 1) = (hxL R c).take j ++ [hxd (S / 16 ^ (c - 1 - j) % 16)]) := fun j hj => by
    rw [hxL_next hj, HN.out (c - 1 - j) (by omega)]
  have HL : Hid (∀ j, j ≤ c → ((hxL R c).take j).length = j) := fun j hj => by rw [List.length_take, hxL_len]; omega
  have HE : Hid ((hxL R c).take c = hxL R c) := by show _ = _; rw [List.take_of_length_le (by rw [hxL_len]; omega)]
  go_loopw [5, 6] (fun t5 t6 wr => ∃ j : Nat, j ≤ c ∧ t6 = .int .i64 ((c : Int) - 1 - j) ∧ wr.ownsRow (w.heap.size + 1) 5 1 t5 ((hxL R c).take j).length (Lib.byteCells ((hxL R c).take j)) ∧ (j = 0 → t5 = .slice none 0 0) ∧ (∀ q, q < 4 → wr.cell? ⟨w.heap.size, q, none⟩ = some (.int .u64 (W4 S q))) ∧ Below w.heap.size w wr ∧ w.heap.size + 1 ≤ wr.heap.size) (fun _ t6 _ => (intOf t6 + 1).toNat)
  case atStart => exact ⟨0, Nat.zero_le _, by go_num, World.ownsRow_nil _ _ _ _, fun _ => rfl, K, HB3, hz3⟩
  case round =>
    obtain ⟨j, hj, ht6, hown, hnil, hcell, hB, hsz⟩ := hrel
    by_cases hlt : j < c
    · obtain ⟨i, hi⟩ : ∃ i, c - 1 - j = i := ⟨_, rfl⟩
      rw [show (c : Int) - 1 - j = i by omega] at ht6
      subst ht6
      have hXj := HX.out j hlt
      rw [hi] at hXj
      obtain ⟨q, hq⟩ : ∃ q, i / 16 = q := ⟨_, rfl⟩
      obtain ⟨r, hr⟩ : ∃ r, i % 16 = r := ⟨_, rfl⟩
      have hqi : (i : Int) / 16 = q := by omega
      have hri : (i : Int) % 16 = r := by omega
      have hr16 : (r : Int) < 16 := by omega
      have hq4 : (q : Int) < 4 := by omega
      have hi60 : (i : Int) < 60 := by omega
      have hcq := hcell q (by omega)
      have hnib := HW.out q r (by omega)
      rw [show 16 * q + r = i by omega] at hnib
      obtain ⟨x, hx⟩ : ∃ x, S / 16 ^ i % 16 = x := ⟨_, rfl⟩
      rw [hx] at hnib hXj
      have hx16 : x < 16 := by rw [← hx]; exact Nat.mod_lt _ (by decide)
      have e4 : ((r : Int) * 4).toNat = 4 * r := by omega
      have hwq := W4_words S q
      generalize W4 S q = y at hnib hcq hwq
      have au := auint_v (w.heap.size + 1) u5 ((hxL R c).take j) x hx16 wr (hT.next hB) hown hsz (by rw [HL.out j hj]; omega)
      have HJ : Hid ((c : Int) - 1 - j = i) := by show _ = _; omega
      have HR : Hid ((hxL R c).take (j + 1) = (hxL R c).take j ++ [hxd x]) := hXj
      have HC : Hid (∀ q, q < 4 → wr.cell? ⟨w.heap.size, q, none⟩ = some (.int .u64 (W4 S q))) := hcell
      have HB : Hid (Below w.heap.size w wr) := hB
      clear hcell hB hXj hx hq hr hi hown hnil K HB3 hz3
      go_wp2_with (go_at_call 120; refine au.mono ?_; rintro e w4 ⟨v4, rfl, ho4, hb4⟩)
      go_roundw
      case rel =>
        refine ⟨j + 1, hlt, ?_, ?_, fun e => absurd e (by omega), fun q hq => ?_, HB.out.trans (hb4.mono (by omega)), Nat.le_trans hsz hb4.size⟩
        · have := HJ.out
          go_num
        · rw [HR.out]
          exact ho4
        · exact (hb4.cell (p := ⟨w.heap.size, q, none⟩) (by show w.heap.size < _; omega)).trans (HC.out q hq)
      case measure => first | (simp [intOf]; done) | (simp [intOf]; omega)
    · obtain rfl : j = c := by omega
      rw [show (j : Int) - 1 - j = -1 by omega] at ht6
      subst ht6
      rw [HE.out] at hown
      have ctr : ∀ (l : List UInt8) (W : World), l.length ≤ 1000 → Calls Tryz.prog 121 #[.string (B l), .string ⟨#[48]⟩] W fun e w' => e = .returned (.string (B (hxS l))) ∧ w' = W := fun l W hl => Tryz.strings_TrimRight_one (B l) 48 (by decide) W (by rw [B_size]; omega)
      have hlen : (hxL R j).length = j := hxL_len R j
      have HB : Hid (Below w.heap.size w wr) := hB
      by_cases h0 : j = 0
      · have ht5 := hnil h0
        subst ht5
        subst h0
        have ct := ctr (hxL R 0) wr (by omega)
        have hz : B (hxL R 0) = ⟨#[]⟩ := rfl
        have hcv : (convert 81 9 (.slice none 0 0)).run Tryz.prog wr = .ok (.string ⟨#[]⟩) wr := by
          rw [run_convert_bytes_string wr 81 9 5 none 0 0 Tryz.underlying81 Tryz.underlying5 Tryz.underlying9]
          rfl
        rw [hz] at ct
        clear hown hnil hcell hB K HB3 hz3 HW HX HL HE HN e1 e2
        go_wp2_with (go_at_call 121; refine ct.mono ?_; rintro e w5 ⟨rfl, rfl⟩)
        go_ret
        exact ⟨by rw [HD.out]; rfl, HB.out⟩
      · have hst := own_str (v := u5) hown (by omega)
        have ct := ctr (hxL R j) wr (by omega)
        generalize B (hxL R j) = bs at *
        clear hown hnil hcell hB K HB3 hz3 HW HX HL HE HN e1 e2
        go_wp2_with (go_at_call 121; refine ct.mono ?_; rintro e w5 ⟨rfl, rfl⟩)
        go_ret
        exact ⟨by rw [HD.out]; rfl, HB.out⟩
end Go.Proofs.YtplocajjfoiklaaGreatDoor

namespace Go.Proofs.YtplocajjfoiklaaGreatDoor
open Go.RowKit

/-- a lies below b, or at it, if the ends count -/
def wiN (c : Bool) (a b : Nat) : Bool := decide (a < b) || (decide (a = b) && c)
/-- what is left ahead of digit k, over Z -/
def rsN (R Z : Nat) : Nat → Nat
  | 0 => R
  | k + 1 => 10 * (rsN R Z k % Z)
def unK (c : Bool) (R d Z k : Nat) : Bool := wiN c (rsN R Z k % Z) (10 ^ k * d)
def ovK (c : Bool) (R u Z k : Nat) : Bool := wiN c (Z - rsN R Z k % Z) (10 ^ k * u)
def stK (c : Bool) (R d u Z k : Nat) : Bool := unK c R d Z k || ovK c R u Z k
section
variable {c : Bool} {R d u Z : Nat} (hZ : 0 < Z)
include hZ
theorem un_big {k : Nat} (h : Z ≤ 10 ^ k * d) : stK c R d u Z k = true := by
  unfold stK unK wiN
  have := Nat.mod_lt (rsN R Z k) hZ
  have : rsN R Z k % Z < 10 ^ k * d := by omega
  simp [this]
theorem st_ex (hd : 0 < d) : ∃ K, stK c R d u Z K = true ∧ ∀ k, k < K → stK c R d u Z k = false := by
  have h1 : ∃ K, stK c R d u Z K = true := ⟨Z, un_big hZ (by
    have h1 : Z < 10 ^ Z := Nat.lt_pow_self (by decide)
    have h2 : 10 ^ Z * 1 ≤ 10 ^ Z * d := Nat.mul_le_mul_left _ hd
    omega)⟩
  obtain ⟨K, hK⟩ := h1
  induction K using Nat.strongRecOn with
  | ind K ih =>
    by_cases h : ∃ k, k < K ∧ stK c R d u Z k = true
    · obtain ⟨k, h1, h2⟩ := h
      exact ih k h1 h2
    · refine ⟨K, hK, fun k hk => ?_⟩
      cases hh : stK c R d u Z k
      · rfl
      · exact absurd ⟨k, hk, hh⟩ h
end
/-- a power of ten isn't above a fraction c times 2^x -/
def zE (x e : Int) : Nat := 4 * 2 ^ (-x).toNat * 10 ^ e.toNat
def oE (x e : Int) : Nat := 2 ^ x.toNat * 10 ^ (-e).toNat
theorem zE_pos (x e : Int) : 0 < zE x e := Nat.mul_pos (Nat.mul_pos (by decide) (Nat.two_pow_pos _)) (Nat.pow_pos (by decide))
theorem oE_pos (x e : Int) : 0 < oE x e := Nat.mul_pos (Nat.two_pow_pos _) (Nat.pow_pos (by decide))
def tnP (c : Nat) (x e : Int) : Prop := zE x e ≤ 4 * c * oE x e
theorem ten_le_two {t p : Nat} (h : 196 * t ≤ 59 * p) : 10 ^ t ≤ 2 ^ p := by
  rcases Nat.lt_or_ge (2 ^ p) (10 ^ t) with h1 | h1
  · exfalso
    have h2 : (2 ^ p) ^ 59 < (10 ^ t) ^ 59 := Nat.pow_lt_pow_left h1 (by decide)
    have h3 : (10 ^ 59) ^ t ≤ (2 ^ 196) ^ t := Nat.pow_le_pow_left (by decide) t
    have h4 : 2 ^ (196 * t) ≤ 2 ^ (59 * p) := Nat.pow_le_pow_right (by decide) h
    have e1 : ((2 : Nat) ^ p) ^ 59 = 2 ^ (59 * p) := by rw [← Nat.pow_mul, Nat.mul_comm]
    have e2 : ((10 : Nat) ^ t) ^ 59 = (10 ^ 59) ^ t := by rw [← Nat.pow_mul, ← Nat.pow_mul, Nat.mul_comm]
    have e3 : ((2 : Nat) ^ 196) ^ t = 2 ^ (196 * t) := by rw [← Nat.pow_mul]
    rw [e1, e2] at h2
    rw [e3] at h3
    omega
  · exact h1
theorem big_ten : (2 : Nat) ^ 100000 ≤ 10 ^ 30103 := by decide +kernel
theorem two_le_ten_n {n m t q : Nat} (hn : n ≠ 0) (hb : (2 : Nat) ^ n ≤ 10 ^ m) (h : m * q ≤ n * t) : 2 ^ q ≤ 10 ^ t := by
  rcases Nat.lt_or_ge (10 ^ t) (2 ^ q) with h1 | h1
  · exfalso
    have h2 : (10 ^ t) ^ n < (2 ^ q) ^ n := Nat.pow_lt_pow_left h1 hn
    have h3 : (2 ^ n) ^ q ≤ (10 ^ m) ^ q := Nat.pow_le_pow_left hb q
    have h4 : 10 ^ (m * q) ≤ 10 ^ (n * t) := Nat.pow_le_pow_right (by decide) h
    have e1 : ((10 : Nat) ^ t) ^ n = 10 ^ (n * t) := by rw [← Nat.pow_mul, Nat.mul_comm]
    have e2 : ((2 : Nat) ^ q) ^ n = (2 ^ n) ^ q := by rw [← Nat.pow_mul, ← Nat.pow_mul, Nat.mul_comm]
    have e3 : ((10 : Nat) ^ m) ^ q = 10 ^ (m * q) := by rw [← Nat.pow_mul]
    rw [e1, e2] at h2
    rw [e3] at h3
    omega
  · exact h1
theorem two_le_ten {t q : Nat} (h : 30103 * q ≤ 100000 * t) : 2 ^ q ≤ 10 ^ t := two_le_ten_n (by decide) big_ten h
/-- the guess is never too high -/
theorem guess_ok {c L : Nat} {x : Int} (hL : 2 ^ L ≤ c) (hb : -20000 ≤ (L : Int) + x ∧ (L : Int) + x ≤ 20000) : tnP c x ((((L : Int) + x) * 30103).tdiv 100000 - 1) := by
  have hq : (((L : Int) + x) * 30103).tdiv 100000 = if 0 ≤ (L : Int) + x then (((L : Int) + x) * 30103) / 100000 else -((-((L : Int) + x) * 30103) / 100000) := by
    split
    · rw [Int.tdiv_eq_ediv_of_nonneg (by omega)]
    · rw [show ((L : Int) + x) * 30103 = -(-((L : Int) + x) * 30103) by omega, Int.neg_tdiv, Int.tdiv_eq_ediv_of_nonneg (by omega)]
  generalize hg : (((L : Int) + x) * 30103).tdiv 100000 - 1 = g at *
  unfold tnP zE oE
  rw [Nat.mul_assoc 4, Nat.mul_assoc 4]
  refine Nat.mul_le_mul_left 4 ?_
  by_cases hg0 : 0 ≤ g
  · have hp : 0 ≤ (L : Int) + x := by
      rcases Int.lt_or_le ((L : Int) + x) 0 with h | h
      · rw [if_neg (by omega)] at hq; omega
      · exact h
    rw [if_pos hp] at hq
    have h1 : 10 ^ g.toNat ≤ 2 ^ ((L : Int) + x).toNat := ten_le_two (by omega)
    rw [show (-g).toNat = 0 by omega, Nat.pow_zero, Nat.mul_one]
    by_cases hx : 0 ≤ x
    · rw [show (-x).toNat = 0 by omega, Nat.pow_zero, Nat.one_mul]
      rw [show ((L : Int) + x).toNat = L + x.toNat by omega, Nat.pow_add] at h1
      exact Nat.le_trans h1 (Nat.mul_le_mul_right _ hL)
    · rw [show x.toNat = 0 by omega, Nat.pow_zero, Nat.mul_one]
      have h2 := Nat.mul_le_mul_left (2 ^ (-x).toNat) h1
      rw [← Nat.pow_add, show (-x).toNat + ((L : Int) + x).toNat = L by omega] at h2
      exact Nat.le_trans h2 hL
  · rw [show g.toNat = 0 by omega, Nat.pow_zero, Nat.mul_one]
    by_cases hp : 0 ≤ (L : Int) + x
    · have h1 : 2 ^ (-x).toNat ≤ c * 2 ^ x.toNat := by
        by_cases hx : 0 ≤ x
        · rw [show (-x).toNat = 0 by omega, Nat.pow_zero]
          have := Nat.two_pow_pos L
          exact Nat.mul_pos (by omega) (Nat.two_pow_pos _)
        · rw [show x.toNat = 0 by omega, Nat.pow_zero, Nat.mul_one]
          exact Nat.le_trans (Nat.pow_le_pow_right (by decide) (by omega)) hL
      rw [← Nat.mul_assoc]
      exact Nat.le_trans h1 (Nat.le_mul_of_pos_right _ (Nat.pow_pos (by decide)))
    · rw [if_neg hp] at hq
      have h1 : 2 ^ (-((L : Int) + x)).toNat ≤ 10 ^ (-g).toNat := two_le_ten (by omega)
      rw [show x.toNat = 0 by omega, Nat.pow_zero, Nat.one_mul]
      rw [show (-x).toNat = L + (-((L : Int) + x)).toNat by omega, Nat.pow_add]
      exact Nat.mul_le_mul hL h1
end Go.Proofs.YtplocajjfoiklaaGreatDoor

namespace Go.Proofs.YtplocajjfoiklaaGreatDoor
open Go.RowKit


theorem NT.more {K K' V : Nat} {v : Value} {w : World} (h : NT K V v w) (hk : K ≤ K') : NT K' V v w := by
  obtain ⟨g, k, cap, z, h1, h2, h3, h4, h5⟩ := h
  exact ⟨g, k, cap, z, h1, by omega, h3, h4, h5⟩
theorem rleft_nt {K A : Nat} {v : Value} {w : World} (s : Nat) (hK : K < 1000000) (hs : s ≤ 6300000) (h : NV K A v w) :
    Calls Tryz.prog 28 #[v, .int .i64 s] w fun e w' => ∃ r, e = .returned r ∧ NT (K + s / 64 + 1) (A * 2 ^ s) r w' ∧ Below w.heap.size w w' := by
  obtain ⟨g, k, c, z, rfl, hk, hN, hz⟩ := h
  refine (fleft_val g 0 k c s z w (by omega) (by omega) (by omega) hN).mono fun e w' ⟨g3, k3, cap3, z3, e1, hk3, hN3, hv3, hB, hf, ht⟩ => ⟨_, e1, ⟨g3, k3, cap3, z3, rfl, by rw [Int.toNat_natCast] at hk3; omega, hN3, ?_, ht⟩, hB⟩
  rw [hv3, hz, Int.toNat_natCast]; simp
end Go.Proofs.YtplocajjfoiklaaGreatDoor

namespace Go.Proofs.YtplocajjfoiklaaGreatDoor
open Go.RowKit
theorem p10_posN (n : Nat) : (0 : Int) < 10 ^ n := Int.pow_pos (by decide)

theorem val_ones : ∀ t, val (fun _ => 18446744073709551615) t = 18446744073709551616 ^ t - 1
  | 0 => by simp [val]
  | t + 1 => by
    show val (fun _ => 18446744073709551615) t + 18446744073709551615 * 18446744073709551616 ^ t = 18446744073709551616 ^ (t + 1) - 1
    rw [val_ones t, Int.pow_succ]; omega
/-- a trimmed number below B^t has t words at most -/
theorem size_bound {z : Nat → Int} (hz : Words z) {k t : Nat} (hs : sizeL z k = k) (hv : val z k < 18446744073709551616 ^ t) : k ≤ t := by
  rcases Nat.lt_or_ge t k with h | h
  · have := val_longer (x := fun _ => 18446744073709551615) (fun _ => (by decide : (0 : Int) ≤ 18446744073709551615 ∧ (18446744073709551615 : Int) ≤ 18446744073709551615)) hz h hs
    rw [val_ones] at this; omega
  · exact h
theorem p19 : ∀ t : Nat, (10 : Int) ^ (19 * t) ≤ 18446744073709551616 ^ t
  | 0 => by simp
  | t + 1 => by
    have ih := p19 t
    have e : (10 : Int) ^ (19 * (t + 1)) = 10 ^ (19 * t) * 10000000000000000000 := by rw [Nat.mul_add, Int.pow_add]; rfl
    rw [e, Int.pow_succ]
    have h0 := pw_pos t
    have h1 := p10_posN (19 * t)
    generalize (18446744073709551616 : Int) ^ t = A at *
    generalize (10 : Int) ^ (19 * t) = B at *
    omega
theorem pow_le10 {b : Int} (hb : 0 ≤ b) (hb2 : b ≤ 10) : ∀ e : Nat, 0 ≤ b ^ e ∧ b ^ e ≤ 10 ^ e
  | 0 => by simp
  | e + 1 => by
    have ih := pow_le10 hb hb2 e
    rw [Int.pow_succ, Int.pow_succ]
    exact ⟨Int.mul_nonneg ih.1 hb, Int.mul_le_mul ih.2 hb2 hb (Int.le_of_lt (p10_posN e))⟩
theorem pow_small {b : Int} (hb : 0 ≤ b) (hb2 : b ≤ 10) {e : Nat} (he : e ≤ 12000) : b ^ e < 18446744073709551616 ^ 632 := by
  have h1 := (pow_le10 hb hb2 e).2
  have h2 := p19 632
  have h3 : (10 : Int) ^ e < 10 ^ (19 * 632) := by
    obtain ⟨k, hk⟩ : ∃ k, 19 * 632 = e + 1 + k := ⟨19 * 632 - (e + 1), by omega⟩
    rw [hk, Int.pow_add, Int.pow_succ]
    have := p10_posN e
    have h4 := p10_posN k
    have h5 : (10 : Int) ^ e * 10 * 1 ≤ 10 ^ e * 10 * 10 ^ k := Int.mul_le_mul_of_nonneg_left (by omega) (by omega)
    omega
  exact Int.lt_of_lt_of_le (Int.lt_of_le_of_lt h1 h3) h2

set_option maxHeartbeats 2000000 in
theorem npow_any (b : Int) (n : Nat) (w : World) (hb : b = 5 ∨ b = 10) (hn : n ≤ 12000) :
    Calls Tryz.prog 147 #[.int .i64 b, .int .i64 n] w fun e w' => ∃ g k cap z, e = .returned (.tuple #[.slice (some ⟨g, 0, none⟩) k cap, .int .i64 0]) ∧ k ≤ 2001 ∧ Num w' (some ⟨g, 0, none⟩) k cap z ∧ val z k = b ^ n ∧ sizeL z k = k ∧ Below w.heap.size w w' := by
  have hb0 : 0 ≤ b ∧ b ≤ 10 := by omega
  have hbc : b = 5 ∨ b = 10 := hb
  have hb2 : (b == 2) = false := by simp; omega
  have hN1 := num_one w 1 (by decide)
  have hBB := below1 w (.cells #[.int .u64 1] 22)
  have hn' : (n : Int) ≤ 12000 := by omega
  have hlen := Tryz.bits_Len n (w.alloc (.cells #[.int .u64 1] 22)) (by omega) (by omega)
  rw [Int.toNat_natCast] at hlen
  obtain ⟨L, hL⟩ : ∃ L, Lib.bitLen n = L := ⟨_, rfl⟩
  have hL64 : L ≤ 64 := by rw [← hL]; exact bitLen64 n
  have HLn : Hid (n / 2 ^ L = 0) := by
    show _ = _
    by_cases h0 : n = 0
    · subst h0; simp
    · have := bitLen_spec n (by omega) (by omega)
      rw [hL] at this
      exact Nat.div_eq_of_lt this.2.2.2
  rw [hL] at hlen
  clear hL
  have HS1 : Hid (sizeL (oneW 1) 1 = 1) := by show _ = _; simp [sizeL, oneW]
  have hne : (b != 2) = true := by simp; omega
  have hpick : (b != 5) = true ∧ (b != 10) = false ∨ (b != 5) = false := by rcases hb with rfl | rfl <;> decide
  have hps : ∀ e, e ≤ 12000 → b ^ e < 18446744073709551616 ^ 632 := fun e he => pow_small hb0.1 hb0.2 he
  have HPS : Hid (∀ e, e ≤ 12000 → b ^ e < 18446744073709551616 ^ 632) := hps
  clear hps hb
  rcases hpick with ⟨h5, h10⟩ | h5
  all_goals
    go_enter Tryz.func147, Tryz.ntmps147
    go_wp2_with (go_at_call 192; refine hlen.mono ?_; rintro e w' ⟨rfl, rfl⟩)
    generalize w.alloc (.cells #[.int .u64 1] 22) = wA at *
    go_loopw [6, 7, 40, 51] (fun pv iv u40 u51 wr => ∃ (k kk g p : Nat) (z : Nat → Int), k ≤ L ∧ iv = .int .i64 ((k : Int) - 1) ∧ pv = .slice (some ⟨g, 0, none⟩) kk p ∧ kk ≤ 632 ∧ Num wr (some ⟨g, 0, none⟩) kk p z ∧ sizeL z kk = kk ∧ Hid (val z kk = b ^ (n / 2 ^ k)) ∧ Below w.heap.size w wr) (fun _ iv _ _ _ => (intOf iv + 1).toNat)
    case atStart => exact ⟨L, 1, w.heap.size, 1, oneW 1, Nat.le_refl _, by go_num, rfl, by omega, hN1, HS1.out, by show _ = _; rw [val_one1, HLn.out, Int.pow_zero], hBB⟩
    case round =>
      clear hN1 hBB hlen
      obtain ⟨k, kk, g, p, z, hk, rfl, rfl, hkk, hN, hs, hv, hB⟩ := hrel
      by_cases h0 : k = 0
      · subst h0
        have HV : Hid (val z kk = b ^ n) := by show _ = _; have := hv.out; simpa using this
        have HN : Hid (Num wr (some ⟨g, 0, none⟩) kk p z) := hN
        have HS : Hid (sizeL z kk = kk) := hs
        clear hN hv hs
        go_wp2
        go_ret2
        exact ⟨g, kk, p, z, rfl, by omega, HN.out, HV.out, HS.out, hB⟩
      · obtain ⟨j, rfl⟩ : ∃ j, k = j + 1 := ⟨k - 1, by omega⟩
        have ej : ((j + 1 : Nat) : Int) - 1 = j := by omega
        rw [ej]
        obtain ⟨e, he⟩ : ∃ e, n / 2 ^ j = e := ⟨_, rfl⟩
        have hcast : (n : Int) / 2 ^ j = (e : Int) := by rw [← he, Int.natCast_ediv, powCast]
        have hen : e ≤ n := by rw [← he]; exact Nat.div_le_self _ _
        have hand := Go.Proofs.and_one e (by omega)
        have hhalf : n / 2 ^ (j + 1) = e / 2 := by rw [Nat.pow_succ, ← Nat.div_div_eq_div_mul, he]
        have m1 := nmul_any (some ⟨g, 0, none⟩) (some ⟨g, 0, none⟩) kk p kk p z z wr (by omega) (by omega) hN hN (by omega)
        have HV1 : Hid (val z kk * val z kk = b ^ (2 * (e / 2))) := by
          show _ = _
          rw [hv.out, hhalf, ← Int.pow_add]; congr 1; omega
        have HJ : Hid (j ≤ L) := by show _ ≤ _; omega
        have HE : Hid (n / 2 ^ j = e) := he
        clear ej he hhalf hN hs hv
        by_cases hodd : e % 2 = 1
        · rw [hodd] at hand
          go_wp2_with (go_at_call 148; refine m1.mono ?_; rintro e' w1 ⟨g1, k1, p1, z1, rfl, hk1, hN1, hv1, hs1, hb1⟩; clear m1)
          rw [HV1.out] at hv1
          have hk1b : k1 ≤ 632 := size_bound hN1.2.2.1 hs1 (by rw [hv1]; exact HPS.out _ (by omega))
          have hB1 := hB.trans (hb1.mono hB.size)
          have hNb := num_one w1 b (by omega)
          have hbb := below1 w1 (.cells #[.int .u64 b] 22)
          have hsb := sizeL_le (oneW b) 1
          have m2 := nmul_any (some ⟨g1, 0, none⟩) (some ⟨w1.heap.size, 0, none⟩) k1 p1 1 1 z1 (oneW b) (w1.alloc (.cells #[.int .u64 b] 22)) (by omega) (by omega) (hN1.next hbb) hNb (by omega)
          have HBB : Hid (Below w.heap.size w (w1.alloc (.cells #[.int .u64 b] 22))) := hB1.trans (hbb.mono hB1.size)
          clear hN1 hNb hbb
          go_wp2_with (go_at_call 148; refine m2.mono ?_; rintro e' w2 ⟨g2, k2, p2, z2, rfl, hk2, hN2, hv2, hs2, hb2⟩; clear m2)
          have hv3 : val z2 k2 = b ^ e := by
            rw [hv2, hv1, val_one1, ← Int.pow_succ]; congr 1; omega
          have hk2b : k2 ≤ 632 := size_bound hN2.2.2.1 hs2 (by rw [hv3]; exact HPS.out _ (by omega))
          have hB2 := HBB.out.trans (hb2.mono HBB.out.size)
          have HN2 : Hid (Num w2 (some ⟨g2, 0, none⟩) k2 p2 z2) := hN2
          clear hN2
          go_roundw
          case rel => exact ⟨j, k2, g2, p2, z2, HJ.out, by go_num, rfl, hk2b, HN2.out, hs2, by show _ = _; rw [HE.out, hv3], hB2⟩
          case measure => simp [intOf]
        · have he0 : e % 2 = 0 := by omega
          rw [he0] at hand
          go_wp2_with (go_at_call 148; refine m1.mono ?_; rintro e' w1 ⟨g1, k1, p1, z1, rfl, hk1, hN1, hv1, hs1, hb1⟩; clear m1)
          have hv3 : val z1 k1 = b ^ e := by
            rw [hv1, HV1.out]; congr 1; omega
          have hk1b : k1 ≤ 632 := size_bound hN1.2.2.1 hs1 (by rw [hv3]; exact HPS.out _ (by omega))
          have hB1 := hB.trans (hb1.mono hB.size)
          have HN1 : Hid (Num w1 (some ⟨g1, 0, none⟩) k1 p1 z1) := hN1
          clear hN1
          go_roundw
          case rel => exact ⟨j, k1, g1, p1, z1, HJ.out, by go_num, rfl, hk1b, HN1.out, hs1, by show _ = _; rw [HE.out, hv3], hB1⟩
          case measure => simp [intOf]
end Go.Proofs.YtplocajjfoiklaaGreatDoor

namespace Go.Proofs.YtplocajjfoiklaaGreatDoor
open Go.RowKit

/-- byte i of a text -/
def sb (s : ByteArray) (i : Nat) : Int := if h : i < s.size then ((s[i]'h).toNat : Int) else 0
theorem sb_lt {s : ByteArray} {i : Nat} (h : i < s.size) : ((s[i]'h).toNat : Int) = sb s i := by unfold sb; rw [dif_pos h]
theorem sb_bd (s : ByteArray) (i : Nat) : 0 ≤ sb s i ∧ sb s i ≤ 255 := by
  unfold sb; split
  · rename_i h; have := (s[i]'h).toNat_lt; omega
  · omega
/-- are the first k bytes digits? -/
def digB (s : ByteArray) : Nat → Bool
  | 0 => true
  | k + 1 => digB s k && decide (48 ≤ sb s k ∧ sb s k ≤ 57)
def isDigB (s : ByteArray) : Bool := digB s s.size && decide (0 < s.size)
theorem digB_false {s : ByteArray} : ∀ (n : Nat) {k : Nat}, k < n → ¬ (48 ≤ sb s k ∧ sb s k ≤ 57) → digB s n = false
  | 0, k, h, _ => by omega
  | n + 1, k, h, hb => by
    unfold digB
    by_cases e : k = n
    · subst e; simp [hb]
    · rw [digB_false n (by omega) hb]; rfl

set_option maxHeartbeats 1000000 in
theorem allDigits_any (s : ByteArray) (w : World) (hs : s.size < 4294967296) :
    Calls Tryz.prog 222 #[.string s] w fun e w' => e = .returned (.bool (isDigB s)) ∧ w = w' := by
  go_enter Tryz.func222, Tryz.ntmps222
  go_wp2
  go_loop [3, 6] (fun u3 i => ∃ k : Nat, k ≤ s.size ∧ i = .int .i64 k ∧ digB s k = true) (fun _ i => s.size - (intOf i).toNat)
  case atStart => exact ⟨0, Nat.zero_le _, rfl, rfl⟩
  case round =>
    obtain ⟨k, hk, rfl, hd⟩ := hrel
    by_cases hlt : k < s.size
    · have hki : (k : Int) < s.size := by omega
      have hsb := sb_lt hlt
      have hbd := sb_bd s k
      by_cases h1 : sb s k < 48
      · have HF : Hid (isDigB s = false) := by show _ = _; unfold isDigB; rw [digB_false s.size hlt (by omega)]; rfl
        go_wp2
        go_ret
        exact ⟨by rw [HF.out]; rfl, rfl⟩
      · by_cases h2 : 57 < sb s k
        · have HF : Hid (isDigB s = false) := by show _ = _; unfold isDigB; rw [digB_false s.size hlt (by omega)]; rfl
          go_wp2
          go_ret
          exact ⟨by rw [HF.out]; rfl, rfl⟩
        · have HD : Hid (digB s (k + 1) = true) := by show _ = _; unfold digB; rw [hd]; simp; omega
          clear hd
          go_wp2
          go_round
          case rel => exact ⟨k + 1, by omega, by go_num, HD.out⟩
          case measure => simp [intOf]; omega
    · obtain rfl : k = s.size := by omega
      have HF : Hid (isDigB s = decide (0 < s.size)) := by show _ = _; unfold isDigB; rw [hd]; simp
      clear hd
      go_wp2
      go_ret
      exact ⟨by rw [HF.out]; rfl, rfl⟩
end Go.Proofs.YtplocajjfoiklaaGreatDoor
