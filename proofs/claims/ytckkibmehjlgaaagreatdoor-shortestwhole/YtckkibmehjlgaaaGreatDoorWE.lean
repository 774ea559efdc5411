/-
  What the texts below lack: Tb, Sx9.
-/
import Derived.Test.YtckkibmehjlgaaaGreatDoorL17
import Derived.Test.YtckkibmehjlgaaaGreatDoorL33
import Derived.Test.YtckkibmehjlgaaaGreatDoorME
set_option linter.unusedVariables false
set_option linter.unusedSectionVars false
set_option linter.unusedSimpArgs false
set_option maxRecDepth 20000
namespace Go.Proofs.YtckkibmehjlgaaaGreatDoor
open Go.RowKit

theorem ld_mul {k b : Nat} (hk : k ≠ 0) (hb : b ≠ 0) : ld (k * b) b = (bl k : Int) - 1 := by
  obtain ⟨k1, k2, k3⟩ := bl_bd hk
  have hkb : k * b ≠ 0 := Nat.mul_ne_zero hk hb
  obtain ⟨K, hK⟩ : ∃ K : Nat, K = bl b + 2 + bl (k * b) := ⟨_, rfl⟩
  obtain ⟨h1, h2⟩ := ld_bd hkb hb K (by omega)
  have hl : (bl (k * b) : Int) - bl b - 1 ≤ ld (k * b) b ∧ ld (k * b) b ≤ (bl (k * b) : Int) - bl b := by
    unfold ld; dsimp only; split <;> omega
  have hbp : 0 < b := Nat.pos_of_ne_zero hb
  rw [Nat.mul_right_comm, Nat.mul_comm (k * 2 ^ K) b] at h1 h2
  have h1' := Nat.le_of_mul_le_mul_left h1 hbp
  have h2' := Nat.lt_of_mul_lt_mul_left h2
  have a1 : 2 ^ ((K : Int) + ld (k * b) b).toNat < 2 ^ (bl k + K) := by
    rw [Nat.pow_add]
    exact Nat.lt_of_le_of_lt h1' (Nat.mul_lt_mul_of_pos_right k2 (Nat.two_pow_pos _))
  have a2 : 2 ^ (bl k - 1 + K) < 2 ^ ((K : Int) + ld (k * b) b + 1).toNat := by
    rw [Nat.pow_add]
    exact Nat.lt_of_le_of_lt (Nat.mul_le_mul_right _ k1) h2'
  have b1 := (Nat.pow_lt_pow_iff_right (by decide : 1 < 2)).1 a1
  have b2 := (Nat.pow_lt_pow_iff_right (by decide : 1 < 2)).1 a2
  omega
theorem keep_eq {n : Int} (d : Int) {s : Bool} {q : Int} {k b : Nat} (hbn : binN n) (h : isD (fN n) (leastN n) (mostN n) ⟨1, s, false, q, k⟩) (hb : b ≠ 0) : rdV n d s (k * b) b q = pkV n ⟨1, s, false, q, k⟩ ∧ rdF n d s (k * b) b q = 0 := by
  rw [pk_fin hbn h]
  have hF := bin_fm hbn
  have hp := pow_e hF.e2 hF.e15
  have hm := hF.m
  rcases h with ⟨_, _, hk1, hx1, hx2, hx3⟩ | ⟨hc, _⟩ | ⟨hc, _⟩
  · dsimp only at hk1 hx1 hx2 hx3
    by_cases hk : k = 0
    · subst hk
      rw [Nat.zero_mul, (r_zero d s b q hbn).1, (r_zero d s b q hbn).2]
      have : q = leastN n := by
        rcases hx3 with h | h
        · have := Nat.two_pow_pos (fN n); omega
        · exact h
      rw [this]; simp
    · have hkb : k * b ≠ 0 := Nat.mul_ne_zero hk hb
      have hL := ld_mul hk hb
      obtain ⟨k1, k2, k3⟩ := bl_bd hk
      have hbl : bl k ≤ fN n + 1 := bl_le.2 hk1
      have hX : rX n (k * b) b q = q := by
        unfold rX wiZ; rw [hL]; omega
      have hQ : rQ n (k * b) b q = q := by
        unfold rQ; rw [hX, hL]
        rcases hx3 with h | h
        · have : fN n < bl k := bl_ge.2 h
          omega
        · omega
      have hq0 : nrQ (k * b) b (q - q) = k ∧ nrR (k * b) b (q - q) = 0 := by
        unfold nrQ nrR
        rw [Int.sub_self]
        simp
        exact Nat.mul_div_cancel _ (Nat.pos_of_ne_zero hb)
      have hFF : nrF d s (k * b) b (q - q) = false := by
        unfold nrF faB; rw [hq0.2]; rfl
      have hPP : rP n d s (k * b) b q = (q - leastN n).toNat * 2 ^ fN n + k := by
        rw [rP_eq]; unfold rB; rw [hX, hQ, hFF, hq0.1]; simp
      have hno : ¬ tpN n ≤ rP n d s (k * b) b q := by
        rw [hPP]
        unfold tpN
        have hpc : ((2 : Int) ^ eN n) = ((2 ^ eN n : Nat) : Int) := by simp
        rw [hpc] at hp hm
        rw [Nat.pow_succ] at hk1
        have h3 : ((q - leastN n).toNat + 2) * 2 ^ fN n ≤ (2 ^ eN n - 1) * 2 ^ fN n := Nat.mul_le_mul_right _ (by omega)
        rw [Nat.add_mul] at h3
        omega
      rw [r_pat d s q hbn hkb hb, r_flag d s q hbn hkb hb]
      unfold capV
      rw [if_neg hno, if_neg hno, hPP, hX, hQ, hq0.2]
      exact ⟨rfl, rfl⟩
  · exact absurd (show (1 : Int) = 2 from hc) (by decide)
  · exact absurd (show (1 : Int) = 3 from hc) (by decide)
end Go.Proofs.YtckkibmehjlgaaaGreatDoor

namespace Go.Proofs.YtckkibmehjlgaaaGreatDoor
open Go.RowKit

theorem dec_v {K k : Nat} {v : Value} {w : World} (hK : K ≤ 30) (hk : k < 2 ^ 256) (h : Nt K k v w) : Calls Tryz.prog 17 #[v] w fun r w' => r = .returned (.string (B (dcL k))) ∧ Below w.heap.size w w' := by
  obtain ⟨a, n, c, z, rfl, hn, hN, hz⟩ := h
  obtain ⟨D, d1, d2, d3, d4⟩ := rdec8 (by omega) hN
  obtain ⟨f1, f2, _⟩ := dcL_facts hk
  have : D = dcL k := gd_uniq d1 f1 (by omega)
  subst this
  exact d4 w (Below.refl _ _)
attribute [local irreducible] W4 Nt
section
variable (c : Int) (s : Bool) (x : Int) (k : Nat) (w : World)
variable (P : List UInt8) (hk : k < 2 ^ 256) (hP : P ≠ []) (hPl : P.length ≤ 660)
  (c103 : ∀ W, Nt 4 k (.slice (some ⟨w.heap.size, 4, none⟩) 4 4) W → Calls Tryz.prog 103 #[.slice (some ⟨w.heap.size, 4, none⟩) 4 4] W fun r w' => r = .returned (.tuple #[.string (B P), .int .i64 0]) ∧ Below W.heap.size W w')
include hk hP hPl c103
end
end Go.Proofs.YtckkibmehjlgaaaGreatDoor
