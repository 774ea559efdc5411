/-
  Texts that the proof leans on.
-/
import Derived.Test.YtpemdcnneabbfaaGreatDoorJ41
import Derived.Test.YtpemdcnneabbfaaGreatDoorJ27
import Derived.Test.YtpemdcnneabbfaaGreatDoorJ40
import Ieee.Arith
import GoSem.Core.Float
import Derived.Test.YtpemdcnneabbfaaGreatDoorJ34
set_option linter.unusedVariables false
set_option linter.unusedSectionVars false
set_option linter.unusedSimpArgs false
set_option maxRecDepth 20000
namespace Go.Proofs.YtpemdcnneabbfaaGreatDoor
open Go.RowKit
/-- the pattern and the flags of a datum that is converted -/
def cvV (n d : Int) (D : Dat) : Nat := if D.c = 2 then pkV n ⟨2, D.s, false, 0, 0⟩ else if D.c = 3 then pkV n ⟨3, D.s, false, 0, if D.k < 2 ^ (fN n - 1) then D.k else 0⟩ else rdV n d D.s D.k 1 D.x
def cvF (n d : Int) (D : Dat) : Int := if D.c = 2 then 0 else if D.c = 3 then (if D.g then 1 else 0) else rdF n d D.s D.k 1 D.x
theorem und_is {m : Int} {B : Nat} (h : goodN m B) : isD (fN m) (leastN m) (mostN m) (unD m B) := by
  obtain ⟨S, E, F, hS, hE, hFr, hBe⟩ := fields_in h.2
  have hu : unD m B = mean (fN m) (eN m) (leastN m) S E F := by
    unfold unD; rw [if_pos h, hBe, unp_mean _ hS hE hFr]
  rw [hu]
  exact (mean_isD (bin_fm h.1) hS hE hFr).1
theorem fN_two {n : Int} (hb : binN n) : 2 ≤ fN n := by
  rcases bin_cases hb with rfl | rfl | rfl | rfl | rfl | rfl <;> decide
/-! the sign -/
theorem nbit12 {f e K : Nat} (hf : 1 ≤ f) (hK : K < 2 ^ (f - 1)) : (2 ^ e - 1) * 2 ^ f + (K + 2 ^ (f - 1)) < 2 ^ (f + e) := by
  have h1 : 2 ^ (f - 1) + 2 ^ (f - 1) = 2 ^ f := by
    rw [← Nat.two_mul, ← Nat.pow_succ', show (f - 1).succ = f by omega]
  have h2 : (2 ^ e - 1) * 2 ^ f + 2 ^ f = 2 ^ e * 2 ^ f := by
    rw [Nat.sub_mul, Nat.one_mul]
    have : 2 ^ f ≤ 2 ^ e * 2 ^ f := Nat.le_mul_of_pos_left _ (Nat.two_pow_pos _)
    omega
  have h3 : 2 ^ (f + e) = 2 ^ e * 2 ^ f := by rw [Nat.pow_add, Nat.mul_comm]
  omega
theorem pk_nan12 {n : Int} {k : Nat} (hb : binN n) (hk : k < 2 ^ (fN n - 1)) : pkV n ⟨3, true, false, 0, k⟩ = pkV n ⟨3, false, false, 0, k⟩ + 2 ^ (fN n + eN n) ∧ pkV n ⟨3, false, false, 0, k⟩ < 2 ^ (fN n + eN n) := by
  have hf2 := fN_two hb
  have h : ∀ s, isD (fN n) (leastN n) (mostN n) ⟨3, s, false, 0, k⟩ := fun s => Or.inr (Or.inr ⟨rfl, rfl, hk, Or.inr rfl⟩)
  unfold pkV
  rw [if_pos ⟨hb, h true⟩, if_pos ⟨hb, h false⟩]
  unfold pk
  simp only [show ¬ ((3 : Int) = 1) by decide, show ¬ ((3 : Int) = 2) by decide, if_false, if_true, Bool.false_eq_true, Nat.add_zero]
  exact ⟨trivial, nbit12 (by omega) hk⟩
theorem cv_turn {t : Int} (d : Int) (hb : binN t) (c : Int) (g : Bool) (x : Int) (k : Nat) : cvV t (othD d) ⟨c, true, g, x, k⟩ = cvV t d ⟨c, false, g, x, k⟩ + 2 ^ (fN t + eN t) ∧ cvF t (othD d) ⟨c, true, g, x, k⟩ = cvF t d ⟨c, false, g, x, k⟩ ∧ cvV t d ⟨c, false, g, x, k⟩ < 2 ^ (fN t + eN t) := by
  unfold cvV cvF
  dsimp only
  by_cases h2 : c = 2
  · simp only [h2, if_true]
    rw [pk_inf hb, pk_inf hb]
    unfold sgN
    simp only [if_true, Bool.false_eq_true, if_false, Nat.add_zero]
    exact ⟨trivial, trivial, tp_lt hb⟩
  · simp only [h2, if_false]
    by_cases h3 : c = 3
    · simp only [h3, if_true]
      have hk : (if k < 2 ^ (fN t - 1) then k else 0) < 2 ^ (fN t - 1) := by
        by_cases h : k < 2 ^ (fN t - 1)
        · rw [if_pos h]; exact h
        · rw [if_neg h]; exact Nat.two_pow_pos _
      obtain ⟨a, b⟩ := pk_nan12 hb hk
      exact ⟨a, trivial, b⟩
    · simp only [h3, if_false]
      exact rd_turn d _ _ hb (by decide)
/-! the order -/
/-! what Convert answers -/
def cnG (m t d : Int) (B : Nat) : Prop := goodN m B ∧ binN t ∧ knB d
instance (m t d : Int) (B : Nat) : Decidable (cnG m t d B) := by unfold cnG; infer_instance
def cnV (m t d : Int) (B : Nat) : Nat := if cnG m t d B then cvV t d (unD m B) else 0
def cnF (m t d : Int) (B : Nat) : Int := if cnG m t d B then cvF t d (unD m B) else 0
def cnE (m t d : Int) (B : Nat) : Int := if cnG m t d B then 0 else 1
/-- what comes out is a pattern of the format -/
theorem cv_good {t : Int} (d : Int) (hb : binN t) (D : Dat) : goodN t (cvV t d D) := by
  obtain ⟨c, s, g, x, k⟩ := D
  have key : ∀ d', cvV t d' ⟨c, false, g, x, k⟩ < 2 ^ (fN t + eN t) := fun d' => (cv_turn d' hb c g x k).2.2
  refine ⟨hb, ?_⟩
  have e : 2 ^ (fN t + eN t + 1) = 2 ^ (fN t + eN t) + 2 ^ (fN t + eN t) := by rw [Nat.pow_succ]; omega
  cases s
  · have := key d
    omega
  · have h1 := (cv_turn (othD d) hb c g x k).1
    have h2 : othD (othD d) = d := by
      unfold othD
      by_cases h : d = 3 ∨ d = 4
      · rw [if_pos h, if_pos (by omega)]; omega
      · rw [if_neg h, if_neg h]
    rw [h2] at h1
    rw [h1]
    have := key (othD d)
    omega
section
/-- a binary format, as the model's floats have it -/
structure FmtOf (n : Int) (F : Ieee.Format) : Prop where
  b : binN n
  e : F.exponentBits = eN n
  f : F.fractionBits = fN n
  l : F.leastPlace = leastN n
theorem fmt_3 : FmtOf 3 Ieee.single := ⟨by decide, by decide, by decide, by decide⟩
theorem fmt_4 : FmtOf 4 Ieee.double := ⟨by decide, by decide, by decide, by decide⟩
section
variable {n : Int} {F : Ieee.Format} (h : FmtOf n F)
include h
theorem fm_bin : F.binade = 2 ^ fN n := by unfold Ieee.Format.binade; rw [h.f]
theorem fm_inf : F.infRung = tpN n := by unfold Ieee.Format.infRung tpN; rw [fm_bin h, h.e]
theorem fm_sg : F.signWeight = 2 ^ (fN n + eN n) := by unfold Ieee.Format.signWeight; rw [h.e, h.f, Nat.add_comm]
theorem fm_word (s : Bool) (r : Nat) : F.word s r = r + sgN n s := by
  unfold Ieee.Format.word sgN
  rw [fm_sg h]
  cases s
  · rfl
  · simp [Nat.add_comm]
theorem bl_log {N : Nat} (hN : N ≠ 0) : bl N = N.log2 + 1 := bl_eq (by rw [Nat.add_sub_cancel]; exact Nat.log2_self_le hN) Nat.lt_log2_self
theorem ld_log {N : Nat} (hN : N ≠ 0) : ld N 1 = (N.log2 : Int) := by
  have e1 : bl 1 = 1 := bl_eq (by decide) (by decide)
  unfold ld
  dsimp only
  rw [bl_log h hN, e1, show (((N.log2 + 1 : Nat) : Int)) - ((1 : Nat) : Int) = (N.log2 : Int) by omega]
  rw [if_neg]
  rw [show (-(N.log2 : Int)).toNat = 0 by omega, Int.toNat_natCast, Nat.pow_zero, Nat.mul_one, Nat.one_mul]
  have := Nat.log2_self_le hN
  omega
theorem fm_cut (s : Bool) (N : Nat) (hN : N ≠ 0) (e : Int) : Ieee.Toward.even.cut s (N <<< e.toNat) (-e).toNat = nrC 0 s N 1 e := by
  have hf0 : ∀ (o : Bool) (R D : Nat), faB 0 s o R D = if R = 0 then false else decide (D < R + R) || (decide (R + R = D) && o) := fun o R D => by unfold faB; rw [if_pos (rfl : (0 : Int) = 0)]
  unfold nrC nrF
  rw [hf0]
  unfold nrQ nrR
  rw [Nat.shiftLeft_eq, Nat.one_mul]
  unfold Ieee.Toward.cut
  dsimp only
  rw [Nat.one_shiftLeft]
  obtain ⟨M, hM⟩ : ∃ M, N * 2 ^ e.toNat = M := ⟨_, rfl⟩
  have hM0 : M ≠ 0 := by rw [← hM]; exact Nat.pos_iff_ne_zero.1 (Nat.mul_pos (Nat.pos_of_ne_zero hN) (Nat.two_pow_pos _))
  rw [hM]
  generalize (-e).toNat = p
  clear hM hN
  have key : ∀ g, 0 < g → (M / g + ((decide (g < 2 * (M % g)) || (g == 2 * (M % g) && M / g % 2 == 1))).toNat) = (if (if M % g = 0 then false else decide (g < M % g + M % g) || (decide (M % g + M % g = g) && decide (M / g % 2 = 1))) = true then M / g + 1 else M / g) := fun g hg => by
    generalize M / g = q
    generalize M % g = r
    by_cases h0 : r = 0
    · subst h0
      have a1 : (g == 2 * 0) = false := by simp; omega
      simp [a1]
    · rw [if_neg h0]
      have a1 : (g == 2 * r) = decide (r + r = g) := by
        by_cases hh : r + r = g
        · rw [decide_eq_true hh]; simp; omega
        · rw [decide_eq_false hh]; simp; omega
      have a2 : (decide (g < 2 * r)) = decide (g < r + r) := by congr 1; rw [Nat.two_mul]
      have a3 : (q % 2 == 1) = decide (q % 2 = 1) := by
        by_cases hh : q % 2 = 1
        · rw [decide_eq_true hh]; simp [hh]
        · rw [decide_eq_false hh]; simp [hh]
      rw [a1, a2, a3]
      cases (decide (g < r + r) || decide (r + r = g) && decide (q % 2 = 1)) <;> simp
  by_cases hp : p ≤ M.log2 + 2
  · rw [Nat.min_eq_left hp]
    exact key _ (Nat.two_pow_pos _)
  · rw [Nat.min_eq_right (by omega), key _ (Nat.two_pow_pos _)]
    have b1 := Nat.lt_log2_self (n := M)
    have b2 : 2 ^ (M.log2 + 2) = 2 * 2 ^ (M.log2 + 1) := by rw [show M.log2 + 2 = (M.log2 + 1) + 1 by omega, Nat.pow_succ]; omega
    have b3 : 2 ^ (M.log2 + 2) ≤ 2 ^ p := Nat.pow_le_pow_right (by decide) (by omega)
    rw [Nat.div_eq_of_lt (show M < 2 ^ (M.log2 + 2) by omega), Nat.mod_eq_of_lt (show M < 2 ^ (M.log2 + 2) by omega), Nat.div_eq_of_lt (show M < 2 ^ p by omega), Nat.mod_eq_of_lt (show M < 2 ^ p by omega)]
    rw [if_neg hM0, decide_eq_false (show ¬ 2 ^ (M.log2 + 2) < M + M by omega), decide_eq_false (show ¬ M + M = 2 ^ (M.log2 + 2) by omega), decide_eq_false (show ¬ 2 ^ p < M + M by omega), decide_eq_false (show ¬ M + M = 2 ^ p by omega)]
    simp
/-- the nearest word is the pattern that the document's rounding gives -/
theorem fm_near (s : Bool) {N : Nat} (hN : N ≠ 0) {x : Int} (hx : rX n N 1 x = x) : F.nearest s N x = rdV n 0 s N 1 x := by
  rw [r_pat 0 s x h.b hN (by decide)]
  unfold Ieee.Format.nearest
  rw [if_neg hN]
  dsimp only
  have hQ : max (x + (N.log2 : Int) - (F.fractionBits : Int)) F.leastPlace = rQ n N 1 x := by
    unfold rQ
    rw [hx, ld_log h hN, h.f, h.l]
    omega
  rw [hQ, h.l, fm_bin h, fm_inf h, fm_word h]
  have hc := fm_cut h s N hN (x - rQ n N 1 x)
  rw [show -(x - rQ n N 1 x) = rQ n N 1 x - x by omega] at hc
  rw [hc]
  have hp : (rQ n N 1 x - leastN n).toNat * 2 ^ fN n + nrC 0 s N 1 (x - rQ n N 1 x) = rP n 0 s N 1 x := by
    unfold rP rC
    rw [hx]
  rw [hp]
  unfold capV
  rw [if_pos (show inB 0 s = true from if_pos (Or.inl rfl))]
  split <;> omega
end
end
end Go.Proofs.YtpemdcnneabbfaaGreatDoor
