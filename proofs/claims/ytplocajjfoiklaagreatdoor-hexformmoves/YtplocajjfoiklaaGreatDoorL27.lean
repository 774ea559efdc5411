/-
  Texts that the proof leans on, joined: Sa, Sc, Kj, Kl, Mm, Mb, Mc, Md, Sd9.
-/
import Derived.Test.YtplocajjfoiklaaGreatDoorL1
import Derived.Test.YtplocajjfoiklaaGreatDoorL26
import Derived.Test.YtplocajjfoiklaaGreatDoorL24
import Derived.Test.YtplocajjfoiklaaGreatDoorL25
import Derived.Test.YtplocajjfoiklaaGreatDoorL8
import Derived.StillTail
import Derived.Below
import Derived.WalkKit
import Derived.Test.YtplocajjfoiklaaGreatDoorL20
import Derived.Deep.Cut
import Derived.Deep.CutRange
import Derived.Test.YtplocajjfoiklaaGreatDoorL9
import Derived.Test.YtplocajjfoiklaaGreatDoorL16
import Derived.Test.YtplocajjfoiklaaGreatDoorL10
import Derived.Test.YtplocajjfoiklaaGreatDoorL12
import Derived.Lib.LaidTab
import Derived.Test.YtplocajjfoiklaaGreatDoorL15
import Derived.Test.YtplocajjfoiklaaGreatDoorL13
set_option linter.unusedVariables false
set_option linter.unusedSectionVars false
set_option linter.unusedSimpArgs false
set_option maxRecDepth 20000
namespace Go.Proofs.YtplocajjfoiklaaGreatDoor
open Go.RowKit

/-- a lies below b, or at it, if the ends count -/
def wiN (c : Bool) (a b : Nat) : Bool := decide (a < b) || (decide (a = b) && c)
/-- what is left ahead of digit k, over Z -/
def rsN (R Z : Nat) : Nat → Nat
  | 0 => R
  | k + 1 => 10 * (rsN R Z k % Z)
def unK (c : Bool) (R d Z k : Nat) : Bool := wiN c (rsN R Z k % Z) (10 ^ k * d)
def ovK (c : Bool) (R u Z k : Nat) : Bool := wiN c (Z - rsN R Z k % Z) (10 ^ k * u)
def stK (c : Bool) (R d u Z k : Nat) : Bool := unK c R d Z k || ovK c R u Z k
section
variable {c : Bool} {R d u Z : Nat} (hZ : 0 < Z)
include hZ
theorem un_big {k : Nat} (h : Z ≤ 10 ^ k * d) : stK c R d u Z k = true := by
  unfold stK unK wiN
  have := Nat.mod_lt (rsN R Z k) hZ
  have : rsN R Z k % Z < 10 ^ k * d := by omega
  simp [this]
theorem st_ex (hd : 0 < d) : ∃ K, stK c R d u Z K = true ∧ ∀ k, k < K → stK c R d u Z k = false := by
  have h1 : ∃ K, stK c R d u Z K = true := ⟨Z, un_big hZ (by
    have h1 : Z < 10 ^ Z := Nat.lt_pow_self (by decide)
    have h2 : 10 ^ Z * 1 ≤ 10 ^ Z * d := Nat.mul_le_mul_left _ hd
    omega)⟩
  obtain ⟨K, hK⟩ := h1
  induction K using Nat.strongRecOn with
  | ind K ih =>
    by_cases h : ∃ k, k < K ∧ stK c R d u Z k = true
    · obtain ⟨k, h1, h2⟩ := h
      exact ih k h1 h2
    · refine ⟨K, hK, fun k hk => ?_⟩
      cases hh : stK c R d u Z k
      · rfl
      · exact absurd ⟨k, hk, hh⟩ h
end
/-- a power of ten isn't above a fraction c times 2^x -/
def zE (x e : Int) : Nat := 4 * 2 ^ (-x).toNat * 10 ^ e.toNat
def oE (x e : Int) : Nat := 2 ^ x.toNat * 10 ^ (-e).toNat
theorem zE_pos (x e : Int) : 0 < zE x e := Nat.mul_pos (Nat.mul_pos (by decide) (Nat.two_pow_pos _)) (Nat.pow_pos (by decide))
theorem oE_pos (x e : Int) : 0 < oE x e := Nat.mul_pos (Nat.two_pow_pos _) (Nat.pow_pos (by decide))
def tnP (c : Nat) (x e : Int) : Prop := zE x e ≤ 4 * c * oE x e
theorem ten_le_two {t p : Nat} (h : 196 * t ≤ 59 * p) : 10 ^ t ≤ 2 ^ p := by
  rcases Nat.lt_or_ge (2 ^ p) (10 ^ t) with h1 | h1
  · exfalso
    have h2 : (2 ^ p) ^ 59 < (10 ^ t) ^ 59 := Nat.pow_lt_pow_left h1 (by decide)
    have h3 : (10 ^ 59) ^ t ≤ (2 ^ 196) ^ t := Nat.pow_le_pow_left (by decide) t
    have h4 : 2 ^ (196 * t) ≤ 2 ^ (59 * p) := Nat.pow_le_pow_right (by decide) h
    have e1 : ((2 : Nat) ^ p) ^ 59 = 2 ^ (59 * p) := by rw [← Nat.pow_mul, Nat.mul_comm]
    have e2 : ((10 : Nat) ^ t) ^ 59 = (10 ^ 59) ^ t := by rw [← Nat.pow_mul, ← Nat.pow_mul, Nat.mul_comm]
    have e3 : ((2 : Nat) ^ 196) ^ t = 2 ^ (196 * t) := by rw [← Nat.pow_mul]
    rw [e1, e2] at h2
    rw [e3] at h3
    omega
  · exact h1
theorem big_ten : (2 : Nat) ^ 100000 ≤ 10 ^ 30103 := by decide +kernel
theorem two_le_ten_n {n m t q : Nat} (hn : n ≠ 0) (hb : (2 : Nat) ^ n ≤ 10 ^ m) (h : m * q ≤ n * t) : 2 ^ q ≤ 10 ^ t := by
  rcases Nat.lt_or_ge (10 ^ t) (2 ^ q) with h1 | h1
  · exfalso
    have h2 : (10 ^ t) ^ n < (2 ^ q) ^ n := Nat.pow_lt_pow_left h1 hn
    have h3 : (2 ^ n) ^ q ≤ (10 ^ m) ^ q := Nat.pow_le_pow_left hb q
    have h4 : 10 ^ (m * q) ≤ 10 ^ (n * t) := Nat.pow_le_pow_right (by decide) h
    have e1 : ((10 : Nat) ^ t) ^ n = 10 ^ (n * t) := by rw [← Nat.pow_mul, Nat.mul_comm]
    have e2 : ((2 : Nat) ^ q) ^ n = (2 ^ n) ^ q := by rw [← Nat.pow_mul, ← Nat.pow_mul, Nat.mul_comm]
    have e3 : ((10 : Nat) ^ m) ^ q = 10 ^ (m * q) := by rw [← Nat.pow_mul]
    rw [e1, e2] at h2
    rw [e3] at h3
    omega
  · exact h1
theorem two_le_ten {t q : Nat} (h : 30103 * q ≤ 100000 * t) : 2 ^ q ≤ 10 ^ t := two_le_ten_n (by decide) big_ten h
/-- the guess is never too high -/
theorem guess_ok {c L : Nat} {x : Int} (hL : 2 ^ L ≤ c) (hb : -20000 ≤ (L : Int) + x ∧ (L : Int) + x ≤ 20000) : tnP c x ((((L : Int) + x) * 30103).tdiv 100000 - 1) := by
  have hq : (((L : Int) + x) * 30103).tdiv 100000 = if 0 ≤ (L : Int) + x then (((L : Int) + x) * 30103) / 100000 else -((-((L : Int) + x) * 30103) / 100000) := by
    split
    · rw [Int.tdiv_eq_ediv_of_nonneg (by omega)]
    · rw [show ((L : Int) + x) * 30103 = -(-((L : Int) + x) * 30103) by omega, Int.neg_tdiv, Int.tdiv_eq_ediv_of_nonneg (by omega)]
  generalize hg : (((L : Int) + x) * 30103).tdiv 100000 - 1 = g at *
  unfold tnP zE oE
  rw [Nat.mul_assoc 4, Nat.mul_assoc 4]
  refine Nat.mul_le_mul_left 4 ?_
  by_cases hg0 : 0 ≤ g
  · have hp : 0 ≤ (L : Int) + x := by
      rcases Int.lt_or_le ((L : Int) + x) 0 with h | h
      · rw [if_neg (by omega)] at hq; omega
      · exact h
    rw [if_pos hp] at hq
    have h1 : 10 ^ g.toNat ≤ 2 ^ ((L : Int) + x).toNat := ten_le_two (by omega)
    rw [show (-g).toNat = 0 by omega, Nat.pow_zero, Nat.mul_one]
    by_cases hx : 0 ≤ x
    · rw [show (-x).toNat = 0 by omega, Nat.pow_zero, Nat.one_mul]
      rw [show ((L : Int) + x).toNat = L + x.toNat by omega, Nat.pow_add] at h1
      exact Nat.le_trans h1 (Nat.mul_le_mul_right _ hL)
    · rw [show x.toNat = 0 by omega, Nat.pow_zero, Nat.mul_one]
      have h2 := Nat.mul_le_mul_left (2 ^ (-x).toNat) h1
      rw [← Nat.pow_add, show (-x).toNat + ((L : Int) + x).toNat = L by omega] at h2
      exact Nat.le_trans h2 hL
  · rw [show g.toNat = 0 by omega, Nat.pow_zero, Nat.mul_one]
    by_cases hp : 0 ≤ (L : Int) + x
    · have h1 : 2 ^ (-x).toNat ≤ c * 2 ^ x.toNat := by
        by_cases hx : 0 ≤ x
        · rw [show (-x).toNat = 0 by omega, Nat.pow_zero]
          have := Nat.two_pow_pos L
          exact Nat.mul_pos (by omega) (Nat.two_pow_pos _)
        · rw [show x.toNat = 0 by omega, Nat.pow_zero, Nat.mul_one]
          exact Nat.le_trans (Nat.pow_le_pow_right (by decide) (by omega)) hL
      rw [← Nat.mul_assoc]
      exact Nat.le_trans h1 (Nat.le_mul_of_pos_right _ (Nat.pow_pos (by decide)))
    · rw [if_neg hp] at hq
      have h1 : 2 ^ (-((L : Int) + x)).toNat ≤ 10 ^ (-g).toNat := two_le_ten (by omega)
      rw [show x.toNat = 0 by omega, Nat.pow_zero, Nat.one_mul]
      rw [show (-x).toNat = L + (-((L : Int) + x)).toNat by omega, Nat.pow_add]
      exact Nat.mul_le_mul hL h1
end Go.Proofs.YtplocajjfoiklaaGreatDoor

namespace Go.Proofs.YtplocajjfoiklaaGreatDoor
open Go.RowKit

theorem NT.nz {K V : Nat} {v : Value} {w : World} (h : NT K V v w) : Nz K V v w := by
  obtain ⟨g, k, cap, z, h1, h2, h3, h4, h5⟩ := h
  exact ⟨_, k, cap, z, h1, h2, h3, h4, h5⟩
theorem NT.nt {K V : Nat} {v : Value} {w : World} (h : NT K V v w) : Nt K V v w := h.nz.nt
attribute [local irreducible] W4 Nz Nt NT
/-- the guessed place of the first digit -/
def gsP (k : Nat) (x : Int) : Int := (((bl k : Int) - 1 + x) * 30103).tdiv 100000 - 1
end Go.Proofs.YtplocajjfoiklaaGreatDoor

namespace Go.Proofs.YtplocajjfoiklaaGreatDoor
open Go.RowKit

/-- behind the point: are there digits, and what is left -/
def hpB (r : List UInt8) : Bool := decide (r.head? = some 46)
def hpF (r : List UInt8) : List UInt8 := if hpB r then r.tail.takeWhile hxB else []
def hpR (r : List UInt8) : List UInt8 := if hpB r then r.tail.dropWhile hxB else r
/-- the number, and the exponent, of what stands behind 0x -/
def hxR (a : List UInt8) : Option (Nat × Int) :=
  if (a.takeWhile hxB).length + (hpF (a.dropWhile hxB)).length = 0 then none
  else match hpR (a.dropWhile hxB) with
    | [] => none
    | y :: z => if y = 112 ∧ isd (sgR z) = true then some (hxV (a.takeWhile hxB) * 16 ^ (hpF (a.dropWhile hxB)).length + hxV (hpF (a.dropWhile hxB)), min (max (exS z) (-1000000000)) 1000000000 - 4 * ((hpF (a.dropWhile hxB)).length : Int)) else none
theorem tw_le (l : List UInt8) : (l.takeWhile hxB).length + (l.dropWhile hxB).length = l.length := by
  have := congrArg List.length (List.takeWhile_append_dropWhile (p := hxB) (l := l))
  rwa [List.length_append] at this
section
variable {n d : Int} {l : List UInt8} (w : World) (hb : binN n) (hd : knB d) (hl : l.length ≤ 4000) (a : List UInt8) (ht : sgR (sml l) = 48 :: 120 :: a)
include hb hd hl ht
end
end Go.Proofs.YtplocajjfoiklaaGreatDoor

namespace Go.Proofs.YtplocajjfoiklaaGreatDoor
open Go.RowKit

theorem hp_sml (r : List UInt8) : hpF (sml r) = sml (pxF r) ∧ hpR (sml r) = sml (pxR r) := by
  cases r with
  | nil => exact ⟨rfl, rfl⟩
  | cons y z =>
    have e0 : hpB (sml (y :: z)) = decide (y = 46) := by
      unfold hpB
      rw [sml_cons, List.head?_cons, decide_eq_decide, Option.some.injEq, sm_46]
    unfold hpF hpR pxF pxR
    rw [e0, pre46]
    by_cases h : y = 46
    · subst h
      rw [decide_eq_true rfl, if_pos rfl, if_pos rfl, if_pos rfl, if_pos rfl, trim46, sml_cons, List.tail_cons, sml_tw, sml_dw]
      exact ⟨rfl, rfl⟩
    · rw [decide_eq_false h]
      exact ⟨rfl, rfl⟩
/-- the number of what stands behind 0x, as the program cuts it -/
theorem hxR_px (a : List UInt8) : hxR (sml a) = (match hpx (pxR (a.dropWhile hxc)) with
    | none => none
    | some X => if (a.takeWhile hxc).length + (pxF (a.dropWhile hxc)).length = 0 then none else some (hxV (sml (a.takeWhile hxc ++ pxF (a.dropWhile hxc))), X - 4 * ((pxF (a.dropWhile hxc)).length : Int))) := by
  unfold hxR
  rw [sml_tw, sml_dw]
  obtain ⟨h1, h2⟩ := hp_sml (a.dropWhile hxc)
  rw [h1, h2, sml_len, sml_len]
  generalize a.takeWhile hxc = W
  generalize pxF (a.dropWhile hxc) = F
  generalize pxR (a.dropWhile hxc) = R
  rw [sml_app, hxV_app, sml_len]
  cases R with
  | nil =>
    rw [sml_nil]
    simp [hpx]
  | cons y z =>
    rw [sml_cons]
    simp only [hpx]
    have hi : isd (sgR (sml z)) = isd (sgR z) := by rw [sgR_sml, isd_sml]
    rw [hi]
    by_cases hc : (y = 112 ∨ y = 80) ∧ isd (sgR z) = true
    · rw [if_pos hc, if_pos (show sm y = 112 ∧ isd (sgR z) = true from ⟨(sm_112 y).2 hc.1, hc.2⟩), exS_sml hc.2]
      rfl
    · rw [if_neg hc, if_neg (show ¬ (sm y = 112 ∧ isd (sgR z) = true) from fun h => hc ⟨(sm_112 y).1 h.1, h.2⟩)]
      simp
end Go.Proofs.YtplocajjfoiklaaGreatDoor

namespace Go.Proofs.YtplocajjfoiklaaGreatDoor
open Go.RowKit

theorem tw_all (l : List UInt8) : (l.takeWhile hxc).all hxc = true := List.all_takeWhile
theorem tw_len (l : List UInt8) : (l.takeWhile hxc).length + (l.dropWhile hxc).length = l.length := by
  have := congrArg List.length (List.takeWhile_append_dropWhile (p := hxc) (l := l))
  rwa [List.length_append] at this
theorem cutp46 (r : List UInt8) (W : World) : Calls Tryz.prog 73 #[.string (B r), .string ⟨#[46]⟩] W fun e w' => e = .returned (.tuple #[.string (B (Lib.trimPrefix r [46])), .bool (Lib.hasPrefix r [46])]) ∧ Below W.heap.size W w' :=
  (cutp_any r [46] W).mono fun e w' ⟨h1, h2⟩ => ⟨h1, by rw [h2]; exact Below.refl _ _⟩
theorem hpx_bd {l : List UInt8} {X : Int} (h : hpx l = some X) : -1000000000 ≤ X ∧ X ≤ 1000000000 := by
  cases l with
  | nil => cases h
  | cons y z =>
    by_cases hc : (y = 112 ∨ y = 80) ∧ isd (sgR z) = true
    · rw [show hpx (y :: z) = some (clampE (exS z)) from if_pos hc] at h
      have e := Option.some.inj h
      rw [← e]
      unfold clampE
      omega
    · rw [show hpx (y :: z) = none from if_neg hc] at h
      cases h
theorem xcut_x {l a : List UInt8} {y : UInt8} (hl : l.length ≤ 4000) (h : sgR l = 48 :: y :: a) (hy : y = 120 ∨ y = 88) (w : World) :
    Calls Tryz.prog 34 #[.string (B l)] w fun e w' => (match hxR (sml a) with
      | none => e = .returned (.tuple #[HZ, .bool false])
      | some (N, X) => ∃ a0 k0 p0, e = .returned (.tuple #[HV (gsgB l) (.slice a0 k0 p0) X, .bool true]) ∧ Nt 300 N (.slice a0 k0 p0) w') ∧ Below w.heap.size w w' := by
  have hsl := sgR_le l
  have hla : a.length + 2 ≤ 4000 := by
    rw [h, List.length_cons, List.length_cons] at hsl
    omega
  have c70 := fun W => xsign_any l W (by omega)
  rw [h] at c70
  have hm : xmkB (48 :: y :: a) = true := by unfold xmkB; simp [hy]
  have c71 := fun W => xmark_any (48 :: y :: a) W (by simp only [List.length_cons]; omega)
  rw [hm, show xmkR (48 :: y :: a) = a from if_pos hm] at c71
  have c72 := fun W => xdig_any a W (by omega)
  have hW := tw_all a
  have hWl := tw_len a
  rw [hxR_px]
  obtain ⟨W1, hW1⟩ : ∃ W1, a.takeWhile hxc = W1 := ⟨_, rfl⟩
  obtain ⟨r1, hr1⟩ : ∃ r1, a.dropWhile hxc = r1 := ⟨_, rfl⟩
  rw [hW1, hr1] at c72 hWl ⊢
  rw [hW1] at hW
  have c73 := fun W => cutp46 r1 W
  by_cases hp : Lib.hasPrefix r1 [46] = true
  · rw [hp] at c73
    have eF : pxF r1 = (Lib.trimPrefix r1 [46]).takeWhile hxc := if_pos hp
    have eR : pxR r1 = (Lib.trimPrefix r1 [46]).dropWhile hxc := if_pos hp
    rw [eF, eR]
    have htl := trimPre_le r1 [46]
    obtain ⟨r0, hr0⟩ : ∃ r0, Lib.trimPrefix r1 [46] = r0 := ⟨_, rfl⟩
    rw [hr0] at c73 htl ⊢
    have c72' := fun W => xdig_any r0 W (by omega)
    have hF := tw_all r0
    have hFl := tw_len r0
    obtain ⟨F1, hF1⟩ : ∃ F1, r0.takeWhile hxc = F1 := ⟨_, rfl⟩
    obtain ⟨r2, hr2⟩ : ∃ r2, r0.dropWhile hxc = r2 := ⟨_, rfl⟩
    rw [hF1, hr2] at c72' hFl ⊢
    rw [hF1] at hF
    have c74 := fun W => xexp_any r2 W (by omega)
    cases hx : hpx r2 with
    | none =>
      rw [hx] at c74
      exact hc_pf l w _ _ c70 a W1 r1 c71 c72 r0 F1 r2 c73 _ c72' c74
    | some X =>
      simp only [hx, Option.getD_some, Option.isSome_some] at c74
      have hXb := hpx_bd hx
      show Calls _ _ _ _ fun e w' => (match (if W1.length + F1.length = 0 then none else some (hxV (sml (W1 ++ F1)), X - 4 * (F1.length : Int)) : Option (Nat × Int)) with | none => _ | some (N, X) => _) ∧ _
      by_cases h0 : W1.length + F1.length = 0
      · rw [if_pos h0]
        exact hc_pz l w _ _ c70 a W1 r1 c71 c72 r0 F1 r2 c73 _ c72' c74 (List.length_eq_zero_iff.1 (by omega)) (List.length_eq_zero_iff.1 (by omega))
      · rw [if_neg h0]
        have hall : (W1 ++ F1).all hxc = true := by rw [List.all_append, hW, hF]; rfl
        by_cases hw0 : W1 = []
        · have c75 := fun W => xnat_v (W1 ++ F1) hall (by rw [List.length_append]; omega) W
          rw [hw0, List.nil_append] at c75 ⊢
          refine (hc_pj l w _ _ c70 a W1 r1 c71 c72 r0 F1 r2 c73 _ c72' c74 hw0 (fun e => h0 (by rw [hw0, e]; rfl)) (by omega) (by omega) _ c75).mono ?_
          rintro e w' ⟨a0, k0, p0, h1, h2, h3⟩
          exact ⟨⟨a0, k0, p0, h1, h2⟩, h3⟩
        · have c75 := fun W => xnat_v (W1 ++ F1) hall (by rw [List.length_append]; omega) W
          refine (hc_pk l w _ _ c70 a W1 r1 c71 c72 r0 F1 r2 c73 _ c72' c74 hw0 (by omega) (by omega) (by omega) _ c75).mono ?_
          rintro e w' ⟨a0, k0, p0, h1, h2, h3⟩
          exact ⟨⟨a0, k0, p0, h1, h2⟩, h3⟩
  · have hp' : Lib.hasPrefix r1 [46] = false := by simpa using hp
    have eT : Lib.trimPrefix r1 [46] = r1 := by unfold Lib.trimPrefix; rw [hp']; rfl
    rw [hp', eT] at c73
    have eF : pxF r1 = [] := if_neg hp
    have eR : pxR r1 = r1 := if_neg hp
    rw [eF, eR]
    have c74 := fun W => xexp_any r1 W (by omega)
    cases hx : hpx r1 with
    | none =>
      rw [hx] at c74
      exact hc_nf l w _ _ c70 a W1 r1 c71 c72 c73 _ c74
    | some X =>
      simp only [hx, Option.getD_some, Option.isSome_some] at c74
      have hXb := hpx_bd hx
      show Calls _ _ _ _ fun e w' => (match (if W1.length + 0 = 0 then none else some (hxV (sml (W1 ++ [])), X - 4 * ((0 : Nat) : Int)) : Option (Nat × Int)) with | none => _ | some (N, X) => _) ∧ _
      by_cases h0 : W1.length = 0
      · rw [if_pos (by omega)]
        exact hc_nz l w _ _ c70 a W1 r1 c71 c72 c73 _ c74 (List.length_eq_zero_iff.1 h0)
      · rw [if_neg (by omega), List.append_nil, show X - 4 * ((0 : Nat) : Int) = X by omega]
        have c75 := fun W => xnat_v W1 hW (by omega) W
        refine (hc_nk l w _ _ c70 a W1 r1 c71 c72 c73 _ c74 (fun e => h0 (by rw [e]; rfl)) (by omega) (by omega) _ c75).mono ?_
        rintro e w' ⟨a0, k0, p0, h1, h2, h3⟩
        exact ⟨⟨a0, k0, p0, h1, h2⟩, h3⟩
/-- the number's bits -/
theorem hxR_bl {a : List UInt8} {N : Nat} {X : Int} (h : hxR a = some (N, X)) (hl : a.length ≤ 4000) : bl N ≤ 51200 := by
  unfold hxR at h
  split at h
  · cases h
  · split at h
    · cases h
    · split at h
      · injection h with h
        injection h with h _
        have hW : (a.takeWhile hxB).all hxB = true := List.all_takeWhile
        have hl1 := tw_le a
        have hF : (hpF (a.dropWhile hxB)).all hxB = true ∧ (hpF (a.dropWhile hxB)).length ≤ (a.dropWhile hxB).length := by
          unfold hpF
          split
          · refine ⟨List.all_takeWhile, ?_⟩
            have h2 := tw_le (a.dropWhile hxB).tail
            have h3 : (a.dropWhile hxB).tail.length ≤ (a.dropWhile hxB).length := by rw [List.length_tail]; omega
            omega
          · exact ⟨rfl, Nat.zero_le _⟩
        have h3 := hxV_lt (show (a.takeWhile hxB ++ hpF (a.dropWhile hxB)).all hxB = true by rw [List.all_append, hW, hF.1]; rfl)
        rw [hxV_app, List.length_append, p16 (_ + _)] at h3
        rw [← h]
        have := bl_le.2 h3
        have := hF.2
        omega
      · cases h
section
variable {n d : Int} {l : List UInt8} (w : World) (hT : Tab w) (hb : binN n) (hd : knB d)
include hT hb hd
theorem xread_n (hl : l.length ≤ 4000) (c34 : ∀ W, Calls Tryz.prog 34 #[.string (B l)] W fun e w' => e = .returned (.tuple #[HZ, .bool false]) ∧ Below W.heap.size W w') (h : ∀ p, cutP l = some p → p.cls = 1) : Calls Tryz.prog 11 #[.int .i64 n, .int .i64 d, .string (B l)] w fun r w' => r = .returned (.tuple #[Z4, .int .i64 0, .int .i64 2]) ∧ Below w.heap.size w w' := by
  have c36 := fun W => cut_any l W (by omega)
  cases hcut : cutP l with
  | none =>
    have hE : (cutE l != 0) = true := by
      simp only [bne_iff_ne, ne_eq]
      intro e
      have := cutE_zero e
      rw [hcut] at this
      cases this
    exact xr_n n d _ _ _ _ _ _ l w hT (fun W hT' => dof_bin hb W hT') (decide_eq_true hd) hl c34 _ _ _ _ _ _ c36 hE
  | some p =>
    obtain ⟨e1, e2⟩ := cutE_some hcut
    rw [e1, e2] at c36
    exact xr_1 n d _ _ _ _ _ _ l w hT (fun W hT' => dof_bin hb W hT') (decide_eq_true hd) hl c34 _ _ _ _ _ 0 c36 (h p hcut)
theorem xread_x (hl : l.length ≤ 4000) (a : List UInt8) (ht : sgR (sml l) = 48 :: 120 :: a) : Calls Tryz.prog 11 #[.int .i64 n, .int .i64 d, .string (B l)] w fun r w' => (match hxR a with | none => r = .returned (.tuple #[Z4, .int .i64 0, .int .i64 2]) | some (N, x) => r = .returned (.tuple #[A4 (rdV n d (gsgB (sml l)) N 1 x), .int .i64 (rdF n d (gsgB (sml l)) N 1 x), .int .i64 0])) ∧ Below w.heap.size w w' := by
  have hcut := cut_0x ht
  rw [sgR_sml] at ht
  rw [gsgB_sml]
  cases hs : sgR l with
  | nil => rw [hs] at ht; cases ht
  | cons c r =>
    rw [hs, sml_cons] at ht
    cases r with
    | nil => simp [sml_nil] at ht
    | cons y z =>
      rw [sml_cons] at ht
      injection ht with h1 h2
      injection h2 with h2 h3
      rw [sm_48] at h1
      rw [sm_120] at h2
      subst h1 h3
      have c34 := fun W => xcut_x hl hs h2 W
      cases hx : hxR (sml z) with
      | none =>
        rw [hx] at c34
        exact xread_n w hT hb hd hl c34 (fun p hp => by rw [hcut] at hp; cases hp)
      | some NX =>
        obtain ⟨N, X⟩ := NX
        rw [hx] at c34
        have hNb : bl N ≤ 51200 := by
          have hsl := sgR_le l
          rw [hs, List.length_cons, List.length_cons] at hsl
          exact hxR_bl hx (by rw [sml_len]; omega)
        refine xr_h n d _ _ _ _ _ _ l w hT (fun W hT' => dof_bin hb W hT') (decide_eq_true hd) hl (gsgB l) X N _ _ _ (fun W => (c34 W).mono ?_) (fun W v v' hTW hv hv' => ?_)
        · rintro e w' ⟨⟨a0, k0, p0, h1, h2⟩, h3⟩
          exact ⟨a0, k0, p0, h1, h2, h3⟩
        · exact rnd_good n d X (gsgB l) hTW (hv.more (by decide)) (hv'.more (by decide)) hb hd (by decide) hNb (by decide)
end
end Go.Proofs.YtplocajjfoiklaaGreatDoor

set_option maxRecDepth 100000
namespace Go.Proofs.YtplocajjfoiklaaGreatDoor
open Go.RowKit

/-- Go's table of trailing noughts -/
def tzTab : List Int := [0, 1, 56, 2, 57, 49, 28, 3, 61, 58, 42, 50, 38, 29, 17, 4, 62, 47, 59, 36, 45, 43, 51, 22, 53, 39, 33, 30, 24, 18, 12, 5] ++ [63, 55, 48, 27, 60, 41, 37, 16, 46, 35, 44, 21, 52, 32, 23, 11, 54, 26, 40, 15, 34, 20, 31, 10, 25, 14, 19, 9, 13, 8, 7, 6]
def TbZ (w : World) : Prop := Lib.TabIs Tryz.prog w "math/bits.deBruijn64tab" .u8 tzTab
theorem TbZ.next {w w' : World} (h : TbZ w) (hb : Below w.heap.size w w') : TbZ w' := Lib.tabBelow_of_tabIs h w' hb
theorem TbZ.at {w : World} (h : TbZ w) : w.cell? ⟨7, 15, none⟩ = some (.int .u8 4) := by
  have := Lib.TabIs.cell h (g := 7) (by kernel_rfl) 15 (by decide)
  exact this
theorem own_bel {w w' : World} {base n : Nat} {v : Value} {xs : List Value} (h : w.ownsRow base 5 1 v n xs) (hB : Below w.heap.size w w') : w'.ownsRow base 5 1 v n xs := by
  obtain ⟨h1, h2⟩ := h
  refine ⟨h1, ?_⟩
  rcases h2 with h2 | ⟨g', cap, cur, e, hb, hh, r⟩
  · exact Or.inl h2
  · have hg : g' < w.heap.size := by
      rcases Nat.lt_or_ge g' w.heap.size with h' | h'
      · exact h'
      · rw [Array.getElem?_eq_none h'] at hh; cases hh
    exact Or.inr ⟨g', cap, cur, e, hb, (hB.block g' hg).trans hh, r⟩
set_option maxHeartbeats 1000000 in
theorem tz_v (w : World) (hT : TbZ w) : Calls Tryz.prog 235 #[.int .u64 16] w fun e w' => e = .returned (.int .i64 4) ∧ w = w' := by
  have hc := hT.at
  have h1 : bits BinOp.and IntKind.u64 16 18446744073709551600 = 16 := by decide
  have h2 : IntKind.u64.wrap (-16) = 18446744073709551600 := by decide
  have h3 : IntKind.u64.wrap 4573923408821661840 = 4573923408821661840 := by decide
  clear hT
  go_enter Tryz.func235, Tryz.ntmps235
  go_wp2
  go_ret
  exact ⟨rfl, rfl⟩
set_option maxHeartbeats 1000000 in
theorem tzu_v (w : World) (hT : TbZ w) : Calls Tryz.prog 208 #[.int .u64 16] w fun e w' => e = .returned (.int .i64 4) ∧ w = w' := by
  have c := tz_v w hT
  go_enter Tryz.func208, Tryz.ntmps208
  go_wp2_with (go_at_call 235; refine c.mono ?_; rintro e w' ⟨rfl, rfl⟩)
  go_ret
  exact ⟨rfl, rfl⟩
set_option maxHeartbeats 1000000 in
theorem ip_v (w : World) : Calls Tryz.prog 207 #[.int .i64 16] w fun e w' => e = .returned (.bool true) ∧ w = w' := by
  have hp : bits BinOp.and IntKind.i64 16 15 = 0 := by decide
  go_enter Tryz.func207, Tryz.ntmps207
  go_wp2
  go_ret
  exact ⟨rfl, rfl⟩
theorem hx36 (x : Nat) (hx : x < 16) : ∀ h : x < (⟨#[48, 49, 50, 51, 52, 53, 54, 55, 56, 57, 97, 98, 99, 100, 101, 102, 103, 104, 105, 106, 107, 108, 109, 110, 111, 112, 113, 114, 115, 116, 117, 118, 119, 120, 121, 122]⟩ : ByteArray).size, (((⟨#[48, 49, 50, 51, 52, 53, 54, 55, 56, 57, 97, 98, 99, 100, 101, 102, 103, 104, 105, 106, 107, 108, 109, 110, 111, 112, 113, 114, 115, 116, 117, 118, 119, 120, 121, 122]⟩ : ByteArray)[x]'h).toNat : Int) = (((hxd x).toNat : Nat) : Int) := by
  intro h
  have hor : x = 0 ∨ x = 1 ∨ x = 2 ∨ x = 3 ∨ x = 4 ∨ x = 5 ∨ x = 6 ∨ x = 7 ∨ x = 8 ∨ x = 9 ∨ x = 10 ∨ x = 11 ∨ x = 12 ∨ x = 13 ∨ x = 14 ∨ x = 15 := by omega
  rcases hor with rfl | rfl | rfl | rfl | rfl | rfl | rfl | rfl | rfl | rfl | rfl | rfl | rfl | rfl | rfl | rfl <;> rfl
set_option maxHeartbeats 4000000 in
theorem fbits_v (Bs : Nat) (v : Value) (l : List UInt8) (x : Nat) (hx : x < 16) (w : World) (hT : TbZ w) (hown : w.ownsRow Bs 5 1 v l.length (Lib.byteCells l)) (hb : Bs ≤ w.heap.size) (hl : l.length ≤ 1000) :
    Calls Tryz.prog 172 #[v, .int .u64 (x : Int), .int .i64 16, .bool false, .bool true] w fun e w' => ∃ v', e = .returned (.tuple #[v', .string ⟨#[]⟩]) ∧ w'.ownsRow Bs 5 1 v' (l ++ [hxd x]).length (Lib.byteCells (l ++ [hxd x])) ∧ Below Bs w w' := by
  have hix := hx36 x hx
  obtain ⟨c, hc⟩ : ∃ c : Int, (((hxd x).toNat : Nat) : Int) = c := ⟨_, rfl⟩
  rw [hc] at hix
  have hcb : 0 ≤ c ∧ c ≤ 255 := by have := (hxd x).toNat_lt; omega
  have hxi : (x : Int) < 16 := by omega
  have hp : bits BinOp.and IntKind.i64 16 15 = 0 := by decide
  have zs : Tryz.zeroCells224.size = 65 := by kernel_rfl
  have z64 : Tryz.zeroCells224[64]? = some (.int .u8 0) := by kernel_rfl
  have HB1 : Below w.heap.size w (w.alloc (.cells (Tryz.zeroCells224.setIfInBounds 64 (.int .u8 c)) 224)) := below1 _ _
  have hcT := tzu_v (w.alloc (.cells Tryz.zeroCells224 224)) (hT.next (below1 _ _))
  obtain ⟨i0, hi, hz0, hz1, hz2⟩ := info_parts Tryz.info5
  have HOWN := own_bel hown HB1
  have HCELL : (w.alloc (.cells (Tryz.zeroCells224.setIfInBounds 64 (.int .u8 c)) 224)).cell? ⟨w.heap.size, 64, none⟩ = some (.int .u8 c) := by
    simp [zs]
  have HNEWS : ∀ (q : Nat) (u : Value), [Value.int .u8 c][q]? = some u → (w.alloc (.cells (Tryz.zeroCells224.setIfInBounds 64 (.int .u8 c)) 224)).cell? ((⟨w.heap.size, 64, none⟩ : Addr).add q) = some u := by
    intro q u hq
    match q, hq with
    | 0, hq => simp at hq; subst hq; exact HCELL
  have HONE : ∀ u ∈ [Value.int .u8 c], u.oneCell' = true := by
    intro u hu; simp at hu; subst hu; rfl
  have HC : Hid ((((hxd x).toNat : Nat) : Int) = c) := hc
  have HX : Hid (∀ q, v.ownBlock = some q → Bs ≤ q) := fun q hq => (hown.lt q hq).1
  clear hc hown hT
  go_enter Tryz.func172, Tryz.ntmps172
  go_wp2_with (first
    | (go_at_call 207; refine (ip_v _).mono ?_; rintro e w' ⟨rfl, rfl⟩)
    | (go_at_call 208; refine hcT.mono ?_; rintro e w' ⟨rfl, rfl⟩))
  go_loop [1, 13] (fun t1 t13 => t1 = .int .u64 (x : Int) ∧ t13 = .int .i64 65) (fun _ _ => 0)
  case atStart => exact ⟨rfl, rfl⟩
  case round =>
    obtain ⟨rfl, rfl⟩ := hrel
    go_wp2_with (first
      | (at_builtin; refine wpList_append_lies _ rfl (.tmp 95) (.tmp 97) 81 rfl Bs 5 i0 (.int .u8 0) 1 1 Tryz.underlying81 hi hz0 hz1 hz2 rfl (by decide) v l.length (Lib.byteCells l) rfl HOWN ⟨w.heap.size, 64, none⟩ 1 1 [Value.int .u8 c] rfl rfl HNEWS HONE (by omega) (by unfold maxLen; omega) (by omega) (by simp; omega) (w.heap.size + 1) (by simp) ?_; intro g cap w1 hown1 hgrow hat hlt1; clear HOWN HNEWS HONE))
    go_wp2
    go_ret2
    refine ⟨_, rfl, ?_, ?_⟩
    · have e := HC.out
      subst e
      rw [bc_one] at hown1
      exact hown1
    · exact ((Below.refl _ w).alloc hb _).grown hgrow (by simp; omega) HX.out
theorem auint_in (Bs : Nat) (v : Value) (l : List UInt8) (x : Nat) (hx : x < 16) (w : World) (hT : TbZ w) (hown : w.ownsRow Bs 5 1 v l.length (Lib.byteCells l)) (hb : Bs ≤ w.heap.size) (hl : l.length ≤ 1000) :
    Calls Tryz.prog 161 #[v, .int .u64 (x : Int), .int .i64 16] w fun e w' => ∃ v', e = .returned v' ∧ w'.ownsRow Bs 5 1 v' (l ++ [hxd x]).length (Lib.byteCells (l ++ [hxd x])) ∧ Below Bs w w' := by
  have c := fbits_v Bs v l x hx w hT hown hb hl
  go_enter Tryz.func161, Tryz.ntmps161
  go_wp2_with (go_at_call 172; refine c.mono ?_; rintro e w' ⟨v', rfl, h1, h2⟩)
  go_ret
  exact ⟨v', rfl, h1, h2⟩
theorem auint_v (Bs : Nat) (v : Value) (l : List UInt8) (x : Nat) (hx : x < 16) (w : World) (hT : TbZ w) (hown : w.ownsRow Bs 5 1 v l.length (Lib.byteCells l)) (hb : Bs ≤ w.heap.size) (hl : l.length ≤ 1000) :
    Calls Tryz.prog 120 #[v, .int .u64 (x : Int), .int .i64 16] w fun e w' => ∃ v', e = .returned v' ∧ w'.ownsRow Bs 5 1 v' (l ++ [hxd x]).length (Lib.byteCells (l ++ [hxd x])) ∧ Below Bs w w' := by
  have c := auint_in Bs v l x hx w hT hown hb hl
  go_enter Tryz.func120, Tryz.ntmps120
  go_wp2_with (go_at_call 161; refine c.mono ?_; rintro e w' ⟨v', rfl, h1, h2⟩)
  go_ret
  exact ⟨v', rfl, h1, h2⟩
end Go.Proofs.YtplocajjfoiklaaGreatDoor

set_option maxRecDepth 20000
namespace Go.Proofs.YtplocajjfoiklaaGreatDoor
open Go.RowKit

theorem lenL_bl {A : Nat} (hA : A < 2 ^ 256) : lenL (W4 A) 4 = (bl A : Int) := by
  have h0 : 0 ≤ lenL (W4 A) 4 := by
    by_cases h : lenL (W4 A) 4 = 0
    · omega
    · have h1 := len4_le (A := A) (k := 0) hA
      by_cases h2 : 0 < sizeL (W4 A) 4
      · obtain ⟨L, h1, _⟩ := len_bd (W4_words A) h2
        omega
      · exact absurd (by unfold lenL; rw [if_pos (by omega)]) h
  obtain ⟨L, hL⟩ := Int.eq_ofNat_of_zero_le h0
  have a1 := (len4_le (A := A) (k := L) hA).1 (by omega)
  have a2 := (len4_le (A := A) (k := bl A) hA).2 (bl_le.1 (Nat.le_refl _))
  have a3 := bl_le.2 a1
  omega
/-- the digits, from the highest bit on: the number with its highest bit just above them -/
theorem hb_shift {k : Nat} (h : k ≠ 0) : k * 2 ^ (4 * hbC k - (bl k - 1)) = 16 ^ hbC k + hbR k := by
  have ht := hb_top h
  have hc := hbC_le k
  unfold hbR
  rw [p16, show (2 : Nat) ^ (4 * hbC k) = 2 ^ (bl k - 1) * 2 ^ (4 * hbC k - (bl k - 1)) by rw [← Nat.pow_add]; congr 1; omega, ← Nat.add_mul, ← ht]
theorem hb_nib {c R i : Nat} (hi : i < c) : (16 ^ c + R) / 16 ^ i % 16 = R / 16 ^ i % 16 := by
  obtain ⟨m, rfl⟩ : ∃ m, c = i + 1 + m := ⟨c - i - 1, by omega⟩
  rw [show (16 : Nat) ^ (i + 1 + m) = 16 ^ i * (16 * 16 ^ m) by rw [Nat.pow_add, Nat.pow_succ]; grind, Nat.mul_add_div (Nat.pow_pos (by decide)), Nat.mul_add_mod]
/-- a digit out of the words -/
theorem nib_w (S q r : Nat) (hr : r < 16) : bits BinOp.and IntKind.u64 (W4 S q / 2 ^ (4 * r)) 15 = ((S / 16 ^ (16 * q + r) % 16 : Nat) : Int) := by
  have hw := W4_words S q
  have h1 : (0 : Int) ≤ W4 S q / 2 ^ (4 * r) := Int.ediv_nonneg hw.1 (Int.le_of_lt (Int.pow_pos (by decide)))
  have h2 : W4 S q / 2 ^ (4 * r) ≤ W4 S q := Int.ediv_le_self _ hw.1
  rw [show (15 : Int) = 2 ^ 4 - 1 by decide, and_mask ⟨h1, by omega⟩ (by decide)]
  unfold W4
  rw [show (2 : Int) ^ (4 * r) = ((2 ^ (4 * r) : Nat) : Int) by simp, ← Int.natCast_ediv, show (2 : Int) ^ 4 = ((16 : Nat) : Int) by decide, ← Int.natCast_emod]
  congr 1
  have e : (18446744073709551616 : Nat) = 2 ^ (4 * r) * (16 * 2 ^ (60 - 4 * r)) := by
    rw [show (16 : Nat) = 2 ^ 4 by decide, ← Nat.pow_add, ← Nat.pow_add, show 4 * r + (4 + (60 - 4 * r)) = 64 by omega]
  rw [e, Nat.mod_mul_right_div_self, Nat.mod_mul_right_mod, Nat.div_div_eq_div_mul, ← Nat.pow_add, p16]
  congr 3
  omega
theorem hxL_next {R c j : Nat} (h : j < c) : (hxL R c).take (j + 1) = (hxL R c).take j ++ [hxd (R / 16 ^ (c - 1 - j) % 16)] := by
  have h1 := hxL_get (N := R) h
  have h2 : j < (hxL R c).length := by rw [hxL_len]; exact h
  rw [List.getElem?_eq_getElem h2] at h1
  rw [List.take_succ_eq_append_getElem h2, Option.some.inj h1]
end Go.Proofs.YtplocajjfoiklaaGreatDoor

namespace Go.Proofs.YtplocajjfoiklaaGreatDoor
open Go.RowKit

attribute [local irreducible] W4
set_option maxHeartbeats 4000000 in
theorem bh_v {k : Nat} (hk0 : k ≠ 0) (hk : bl k ≤ 241) (w : World) (hT : TbZ w) : Calls Tryz.prog 56 #[A4 k] w fun e w' => e = .returned (.string (B (hbD k))) ∧ Below w.heap.size w w' := by
  have hA : k < 2 ^ 256 := bl_le.1 (by omega)
  have hn1 : bl k ≠ 0 := fun e => hk0 (bl_zero.1 e)
  obtain ⟨n, hn⟩ : ∃ n, bl k = n := ⟨_, rfl⟩
  obtain ⟨c, hc⟩ : ∃ c, hbC k = c := ⟨_, rfl⟩
  obtain ⟨R, hR⟩ : ∃ R, hbR k = R := ⟨_, rfl⟩
  have hcn : c = (n - 1 + 3) / 4 := by rw [← hc, ← hn]; rfl
  obtain ⟨m, hm⟩ : ∃ m, 4 * c - (n - 1) = m := ⟨_, rfl⟩
  have hS := hb_shift hk0
  have HD : Hid (hbD k = hxS (hxL R c)) := by show _ = _; rw [← hR, ← hc]; rfl
  rw [hc, hn, hm, hR] at hS
  have c55 := fun W => len4' k W
  rw [lenL_bl hA, hn] at c55
  have c113 := fun W => shl4 k m W hA (by omega)
  rw [hS] at c113
  have HN : Hid (∀ i, i < c → (16 ^ c + R) / 16 ^ i % 16 = R / 16 ^ i % 16) := fun i hi => hb_nib hi
  obtain ⟨S, hSS⟩ : ∃ S, 16 ^ c + R = S := ⟨_, rfl⟩
  rw [hSS] at c113 HN
  rw [hn] at hk hn1
  have e1 : ((n : Int) - 1 + 3) / 4 = c := by omega
  have e2 : (4 : Int) * c - (n - 1) = m := by omega
  have hnb : 1 ≤ (n : Int) ∧ (n : Int) ≤ 241 := by omega
  have hcb : (c : Int) ≤ 60 := by omega
  have hsm := cell_set_map
  clear hS hSS hR hc hn hcn hm hk0 hA
  go_enter Tryz.func56, Tryz.ntmps56
  go_wp2_with (first
    | (go_at_call 55; refine (c55 _).mono ?_; rintro r w1 ⟨rfl, hb1⟩; obtain ⟨hc1, hf1⟩ := bcell hb1; have hz1_0 : w.heap.size < w1.heap.size := lt_below hb1 ltg; have hl1_0 := Nat.le_of_lt hz1_0; have hA1 := bnext (w0 := w) bgo hb1; have hs1 := hA1.size; clear hb1)
    | (go_at_call 113; refine (c113 _).mono ?_; rintro r w2 ⟨rfl, hb2⟩; obtain ⟨hc2, hf2⟩ := bcell hb2; have hz2_0 : w.heap.size < w2.heap.size := lt_below hb2 ltg; have hl2_0 := Nat.le_of_lt hz2_0; have hA2 := bnext (w0 := w) bgo hb2; have hs2 := hA2.size; clear hb2))
  have K : ∀ q, q < 4 → ((((w2.setCell ⟨w.heap.size, 0, none⟩ (.int .u64 (W4 S 0))).setCell ⟨w.heap.size, 1, none⟩ (.int .u64 (W4 S 1))).setCell ⟨w.heap.size, 2, none⟩ (.int .u64 (W4 S 2))).setCell ⟨w.heap.size, 3, none⟩ (.int .u64 (W4 S 3))).cell? ⟨w.heap.size, q, none⟩ = some (.int .u64 (W4 S q)) := by
    intro q hq
    have hor : q = 0 ∨ q = 1 ∨ q = 2 ∨ q = 3 := by omega
    rcases hor with rfl | rfl | rfl | rfl <;> go_simp
  have HB3 : Below w.heap.size w ((((w2.setCell ⟨w.heap.size, 0, none⟩ (.int .u64 (W4 S 0))).setCell ⟨w.heap.size, 1, none⟩ (.int .u64 (W4 S 1))).setCell ⟨w.heap.size, 2, none⟩ (.int .u64 (W4 S 2))).setCell ⟨w.heap.size, 3, none⟩ (.int .u64 (W4 S 3))) := bgo
  have hz3 : w.heap.size + 1 ≤ ((((w2.setCell ⟨w.heap.size, 0, none⟩ (.int .u64 (W4 S 0))).setCell ⟨w.heap.size, 1, none⟩ (.int .u64 (W4 S 1))).setCell ⟨w.heap.size, 2, none⟩ (.int .u64 (W4 S 2))).setCell ⟨w.heap.size, 3, none⟩ (.int .u64 (W4 S 3))).heap.size := by simp; omega
  generalize ((((w2.setCell ⟨w.heap.size, 0, none⟩ (.int .u64 (W4 S 0))).setCell ⟨w.heap.size, 1, none⟩ (.int .u64 (W4 S 1))).setCell ⟨w.heap.size, 2, none⟩ (.int .u64 (W4 S 2))).setCell ⟨w.heap.size, 3, none⟩ (.int .u64 (W4 S 3))) = w3 at *
  clear hc1 hf1 hc2 hf2 hsm c55 c113
  have HW : Hid (∀ q r, r < 16 → bits BinOp.and IntKind.u64 (W4 S q / 2 ^ (4 * r)) 15 = ((S / 16 ^ (16 * q + r) % 16 : Nat) : Int)) := fun q r hr => nib_w S q r hr
  have HX : Hid (∀ j, j < c → (hxL R c).take (j + 1) = (hxL R c).take j ++ [hxd (S / 16 ^ (c - 1 - j) % 16)]) := fun j hj => by
    rw [hxL_next hj, HN.out (c - 1 - j) (by omega)]
  have HL : Hid (∀ j, j ≤ c → ((hxL R c).take j).length = j) := fun j hj => by rw [List.length_take, hxL_len]; omega
  have HE : Hid ((hxL R c).take c = hxL R c) := by show _ = _; rw [List.take_of_length_le (by rw [hxL_len]; omega)]
  go_loopw [5, 6] (fun t5 t6 wr => ∃ j : Nat, j ≤ c ∧ t6 = .int .i64 ((c : Int) - 1 - j) ∧ wr.ownsRow (w.heap.size + 1) 5 1 t5 ((hxL R c).take j).length (Lib.byteCells ((hxL R c).take j)) ∧ (j = 0 → t5 = .slice none 0 0) ∧ (∀ q, q < 4 → wr.cell? ⟨w.heap.size, q, none⟩ = some (.int .u64 (W4 S q))) ∧ Below w.heap.size w wr ∧ w.heap.size + 1 ≤ wr.heap.size) (fun _ t6 _ => (intOf t6 + 1).toNat)
  case atStart => exact ⟨0, Nat.zero_le _, by go_num, World.ownsRow_nil _ _ _ _, fun _ => rfl, K, HB3, hz3⟩
  case round =>
    obtain ⟨j, hj, ht6, hown, hnil, hcell, hB, hsz⟩ := hrel
    by_cases hlt : j < c
    · obtain ⟨i, hi⟩ : ∃ i, c - 1 - j = i := ⟨_, rfl⟩
      rw [show (c : Int) - 1 - j = i by omega] at ht6
      subst ht6
      have hXj := HX.out j hlt
      rw [hi] at hXj
      obtain ⟨q, hq⟩ : ∃ q, i / 16 = q := ⟨_, rfl⟩
      obtain ⟨r, hr⟩ : ∃ r, i % 16 = r := ⟨_, rfl⟩
      have hqi : (i : Int) / 16 = q := by omega
      have hri : (i : Int) % 16 = r := by omega
      have hr16 : (r : Int) < 16 := by omega
      have hq4 : (q : Int) < 4 := by omega
      have hi60 : (i : Int) < 60 := by omega
      have hcq := hcell q (by omega)
      have hnib := HW.out q r (by omega)
      rw [show 16 * q + r = i by omega] at hnib
      obtain ⟨x, hx⟩ : ∃ x, S / 16 ^ i % 16 = x := ⟨_, rfl⟩
      rw [hx] at hnib hXj
      have hx16 : x < 16 := by rw [← hx]; exact Nat.mod_lt _ (by decide)
      have e4 : ((r : Int) * 4).toNat = 4 * r := by omega
      have hwq := W4_words S q
      generalize W4 S q = y at hnib hcq hwq
      have au := auint_v (w.heap.size + 1) u5 ((hxL R c).take j) x hx16 wr (hT.next hB) hown hsz (by rw [HL.out j hj]; omega)
      have HJ : Hid ((c : Int) - 1 - j = i) := by show _ = _; omega
      have HR : Hid ((hxL R c).take (j + 1) = (hxL R c).take j ++ [hxd x]) := hXj
      have HC : Hid (∀ q, q < 4 → wr.cell? ⟨w.heap.size, q, none⟩ = some (.int .u64 (W4 S q))) := hcell
      have HB : Hid (Below w.heap.size w wr) := hB
      clear hcell hB hXj hx hq hr hi hown hnil K HB3 hz3
      go_wp2_with (go_at_call 120; refine au.mono ?_; rintro e w4 ⟨v4, rfl, ho4, hb4⟩)
      go_roundw
      case rel =>
        refine ⟨j + 1, hlt, ?_, ?_, fun e => absurd e (by omega), fun q hq => ?_, HB.out.trans (hb4.mono (by omega)), Nat.le_trans hsz hb4.size⟩
        · have := HJ.out
          go_num
        · rw [HR.out]
          exact ho4
        · exact (hb4.cell (p := ⟨w.heap.size, q, none⟩) (by show w.heap.size < _; omega)).trans (HC.out q hq)
      case measure => first | (simp [intOf]; done) | (simp [intOf]; omega)
    · obtain rfl : j = c := by omega
      rw [show (j : Int) - 1 - j = -1 by omega] at ht6
      subst ht6
      rw [HE.out] at hown
      have ctr : ∀ (l : List UInt8) (W : World), l.length ≤ 1000 → Calls Tryz.prog 121 #[.string (B l), .string ⟨#[48]⟩] W fun e w' => e = .returned (.string (B (hxS l))) ∧ w' = W := fun l W hl => Tryz.strings_TrimRight_one (B l) 48 (by decide) W (by rw [B_size]; omega)
      have hlen : (hxL R j).length = j := hxL_len R j
      have HB : Hid (Below w.heap.size w wr) := hB
      by_cases h0 : j = 0
      · have ht5 := hnil h0
        subst ht5
        subst h0
        have ct := ctr (hxL R 0) wr (by omega)
        have hz : B (hxL R 0) = ⟨#[]⟩ := rfl
        have hcv : (convert 81 9 (.slice none 0 0)).run Tryz.prog wr = .ok (.string ⟨#[]⟩) wr := by
          rw [run_convert_bytes_string wr 81 9 5 none 0 0 Tryz.underlying81 Tryz.underlying5 Tryz.underlying9]
          rfl
        rw [hz] at ct
        clear hown hnil hcell hB K HB3 hz3 HW HX HL HE HN e1 e2
        go_wp2_with (go_at_call 121; refine ct.mono ?_; rintro e w5 ⟨rfl, rfl⟩)
        go_ret
        exact ⟨by rw [HD.out]; rfl, HB.out⟩
      · have hst := own_str (v := u5) hown (by omega)
        have ct := ctr (hxL R j) wr (by omega)
        generalize B (hxL R j) = bs at *
        clear hown hnil hcell hB K HB3 hz3 HW HX HL HE HN e1 e2
        go_wp2_with (go_at_call 121; refine ct.mono ?_; rintro e w5 ⟨rfl, rfl⟩)
        go_ret
        exact ⟨by rw [HD.out]; rfl, HB.out⟩
end Go.Proofs.YtplocajjfoiklaaGreatDoor

namespace Go.Proofs.YtplocajjfoiklaaGreatDoor
open Go.RowKit

attribute [local irreducible] W4 Nz Nt NT
section
variable (x p : Int) (A B C D : Nat) (w : World) (hx : -100000 ≤ x ∧ x ≤ 100000) (hp : -100000 ≤ p ∧ p ≤ 100000)
include hx hp
end
section
variable (n : Int) (c : Int) (s g : Bool) (x : Int) (k : Nat) (nm : ByteArray) (wd : Int) (f e : Nat) (l m : Int) (w : World) (hT : Tab w) (hk : k < 2 ^ 256) (hf : f ≤ 300)
  (c73 : ∀ W, Tab W → Calls Tryz.prog 32 #[.int .i64 n] W fun r w' => r = .returned (.tuple #[DI n nm wd f e l m, .int .i64 0]) ∧ Below W.heap.size W w')
  (c113 : ∀ W, Calls Tryz.prog 147 #[.int .i64 2, .int .i64 (f : Int)] W fun r w' => ∃ v, r = .returned (.tuple #[v, .int .i64 0]) ∧ Nt 2001 (2 ^ f) v w' ∧ Below W.heap.size W w')
include hT hk hf c73 c113
end
/-- is the next number below nearer than the next one above -/
def nbB (n x : Int) (k : Nat) : Bool := decide (leastN n < x) && decide (k = 2 ^ fN n)
end Go.Proofs.YtplocajjfoiklaaGreatDoor
