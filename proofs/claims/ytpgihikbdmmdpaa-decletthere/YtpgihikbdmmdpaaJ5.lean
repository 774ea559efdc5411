/-
  Texts that the proof leans on, joined: Shv, Nsr, Dlm, Dst, Dlg, Ndv, Ovm, Muls, Lvm, Lv4.
-/
import Derived.Test.YtpgihikbdmmdpaaJ4
import Derived.Test.YtpgihikbdmmdpaaJ3
set_option linter.unusedVariables false
set_option linter.unusedSimpArgs false
set_option maxRecDepth 20000
set_option linter.unusedSectionVars false
namespace Go.Proofs.Ytpgihikbdmmdpaa
open Go.RowKit

theorem wrap_mod (a : Int) : IntKind.u64.wrap a = a % 18446744073709551616 := by
  simp only [IntKind.wrap, IntKind.bits, IntKind.signed]
  simp
theorem p2_pos (n : Nat) : (0 : Int) < 2 ^ n := Int.pow_pos (by decide)
theorem p2_split {r : Nat} (hr : r ≤ 64) : (2 : Int) ^ (64 - r) * 2 ^ r = 18446744073709551616 := by
  rw [← Int.pow_add, show 64 - r + r = 64 by omega]; rfl
/-- what goes beyond a word that is shifted by r -/
def hiW (x : Int) (r : Nat) : Int := x * 2 ^ r / 18446744073709551616
theorem hiW_eq (x : Int) {r : Nat} (hr : r ≤ 64) : x / 2 ^ (64 - r) = hiW x r := by
  unfold hiW
  rw [← p2_split hr, Int.mul_ediv_mul_of_pos_left _ _ (p2_pos r)]
theorem hiW_bd {x : Int} (hx : 0 ≤ x ∧ x ≤ 18446744073709551615) (r : Nat) : 0 ≤ hiW x r ∧ hiW x r < 2 ^ r := by
  have hp := p2_pos r
  unfold hiW
  refine ⟨Int.ediv_nonneg (Int.mul_nonneg hx.1 (by omega)) (by decide), Int.ediv_lt_of_lt_mul (by decide) ?_⟩
  rw [Int.mul_comm (2 ^ r)]
  exact Int.mul_lt_mul_of_pos_right (by omega) hp
theorem p2_le {r : Nat} (hr : r < 64) : (2 : Int) ^ r ≤ 9223372036854775808 := by
  have h := p2_split (show r ≤ 64 by omega)
  have h1 : (2 : Int) ^ (64 - r) = 2 ^ (63 - r) * 2 := by rw [← Int.pow_succ]; congr 1; omega
  have h2 := p2_pos (63 - r)
  rw [h1] at h
  have : (1 : Int) * (2 * 2 ^ r) ≤ 2 ^ (63 - r) * (2 * 2 ^ r) := Int.mul_le_mul_of_nonneg_right (by omega) (by have := p2_pos r; omega)
  rw [← Int.mul_assoc] at this
  have e : (2 : Int) ^ (63 - r) * (2 * 2 ^ r) = 18446744073709551616 := by rw [← Int.mul_assoc]; exact h
  omega
/-- the two parts of a shifted word have no bit in common -/
theorem or_shl {y b : Int} {r : Nat} (hr : r < 64) (hy : 0 ≤ y) (hb : 0 ≤ b ∧ b < 2 ^ r) : orW b (IntKind.u64.wrap (y * 2 ^ r)) = y * 2 ^ r % 18446744073709551616 + b := by
  have hle := p2_le hr
  have hp := p2_pos r
  have hme : y * 2 ^ r % (2 ^ (64 - r) * 2 ^ r) = y % 2 ^ (64 - r) * 2 ^ r := by
    have := Int.mul_emod_mul_of_pos y (2 ^ (64 - r)) hp
    rw [Int.mul_comm y, Int.mul_comm (2 ^ (64 - r)), this, Int.mul_comm]
  rw [orW_eq b _ (by omega) (wrap_word _), wrap_mod, ← p2_split (show r ≤ 64 by omega), hme]
  have hm0 := Int.emod_nonneg y (show (2 : Int) ^ (64 - r) ≠ 0 by have := p2_pos (64 - r); omega)
  obtain ⟨u, hu⟩ := Int.eq_ofNat_of_zero_le hm0
  obtain ⟨b', rfl⟩ := Int.eq_ofNat_of_zero_le hb.1
  rw [hu]
  have e1 : ((u : Int) * 2 ^ r).toNat = 2 ^ r * u := by
    have : ((u : Int) * 2 ^ r) = ((2 ^ r * u : Nat) : Int) := by rw [Int.natCast_mul, powCast, Int.mul_comm]
    rw [this]; exact Int.toNat_natCast _
  have hb2 : b' < 2 ^ r := by
    have h := hb.2
    rw [← powCast] at h; omega
  rw [e1, Int.toNat_natCast, Nat.or_comm, ← Nat.two_pow_add_eq_or_of_lt hb2]
  rw [Int.natCast_add, Int.natCast_mul, powCast, Int.mul_comm]
/-- what comes in from the word below -/
def prevW (x : Nat → Int) (r i : Nat) : Int := if i = 0 then 0 else hiW (x (i - 1)) r
/-- the words of x times 2^r -/
def shW (x : Nat → Int) (r i : Nat) : Int := x i * 2 ^ r % 18446744073709551616 + prevW x r i
theorem prevW_bd {x : Nat → Int} (hx : Words x) (r i : Nat) : 0 ≤ prevW x r i ∧ prevW x r i < 2 ^ r := by
  unfold prevW; split
  · have := p2_pos r; omega
  · exact hiW_bd (hx _) r
theorem shW_or {x : Nat → Int} (hx : Words x) {r : Nat} (hr : r < 64) (i : Nat) : orW (prevW x r i) (IntKind.u64.wrap (x i * 2 ^ r)) = shW x r i := or_shl hr (hx i).1 (prevW_bd hx r i)
theorem sh_val (x : Nat → Int) (r : Nat) : ∀ m, val (shW x r) m + prevW x r m * 18446744073709551616 ^ m = val x m * 2 ^ r
  | 0 => by simp [val, prevW]
  | m + 1 => by
    have ih := sh_val x r m
    show val (shW x r) m + shW x r m * 18446744073709551616 ^ m + prevW x r (m + 1) * 18446744073709551616 ^ (m + 1) = (val x m + x m * 18446744073709551616 ^ m) * 2 ^ r
    have e1 : prevW x r (m + 1) = x m * 2 ^ r / 18446744073709551616 := rfl
    have e2 : shW x r m = x m * 2 ^ r % 18446744073709551616 + prevW x r m := rfl
    have e3 := Int.emod_add_mul_ediv (x m * 2 ^ r) 18446744073709551616
    rw [e1, e2, Int.pow_succ]
    generalize x m * 2 ^ r / 18446744073709551616 = K at *
    generalize x m * 2 ^ r % 18446744073709551616 = R at *
    generalize (18446744073709551616 : Int) ^ m = P at *
    grind
theorem sh_end {x : Nat → Int} {n : Nat} (zx : ∀ i, n ≤ i → x i = 0) (r m : Nat) (h : n < m) : val (shW x r) m = val x n * 2 ^ r := by
  have e := sh_val x r m
  have e1 : prevW x r m = 0 := by
    unfold prevW hiW; rw [if_neg (by omega), zx (m - 1) (by omega)]; simp
  rw [e1, val_more zx m (by omega)] at e
  omega
/-- words that are moved up by q -/
def upW (f : Nat → Int) (q j : Nat) : Int := if q ≤ j then f (j - q) else 0
theorem val_up (f : Nat → Int) (q : Nat) : ∀ m, val (upW f q) (q + m) = val f m * 18446744073709551616 ^ q
  | 0 => by
    have : ∀ k, k ≤ q → val (upW f q) k = 0 := by
      intro k
      induction k with
      | zero => intro _; rfl
      | succ k ih =>
        intro hk
        show val (upW f q) k + upW f q k * 18446744073709551616 ^ k = 0
        rw [ih (by omega)]
        unfold upW; rw [if_neg (by omega)]; simp
    rw [Nat.add_zero, this q (Nat.le_refl _)]; simp [val]
  | m + 1 => by
    have ih := val_up f q m
    show val (upW f q) (q + m) + upW f q (q + m) * 18446744073709551616 ^ (q + m) = (val f m + f m * 18446744073709551616 ^ m) * 18446744073709551616 ^ q
    rw [ih]
    have e : upW f q (q + m) = f m := by unfold upW; rw [if_pos (by omega)]; congr 1; omega
    rw [e, Int.pow_add]
    generalize (18446744073709551616 : Int) ^ m = P
    generalize (18446744073709551616 : Int) ^ q = Q
    grind
theorem finL_up {x : Nat → Int} (hx : Words x) (q : Nat) {r : Nat} (hr : r < 64) : finL x q r = upW (shW x r) q := by
  funext j
  unfold finL upW
  by_cases h : q ≤ j
  · rw [if_pos h, if_pos h, ← shW_or hx hr (j - q)]
    congr 1
    unfold lowp prevW
    by_cases h0 : j - q = 0
    · rw [if_pos h0, if_neg (by omega)]
    · rw [if_neg h0]
      by_cases hr0 : 0 < r
      · rw [if_pos (by omega), hiW_eq _ (by omega)]
      · obtain rfl : r = 0 := by omega
        rw [if_neg (by omega)]
        unfold hiW
        have := hx (j - q - 1)
        omega
  · rw [if_neg h, if_neg h]
theorem p64 (q r : Nat) : (2 : Int) ^ r * 18446744073709551616 ^ q = 2 ^ (64 * q + r) := by
  rw [Int.pow_add, Int.pow_mul, Int.mul_comm]; rfl
/-- the value of what the document's Left lays -/
theorem finL_val {x : Nat → Int} {n : Nat} (hx : Words x) (zx : ∀ i, n ≤ i → x i = 0) (q : Nat) {r : Nat} (hr : r < 64) : val (finL x q r) (n + q + 1) = val x n * 2 ^ (64 * q + r) := by
  rw [finL_up hx q hr, show n + q + 1 = q + (n + 1) by omega, val_up, sh_end zx r (n + 1) (by omega), Int.mul_assoc, p64]
end Go.Proofs.Ytpgihikbdmmdpaa

namespace Go.Proofs.Ytpgihikbdmmdpaa
open Go.RowKit
/-- what a word sends down into the one below it -/
def dnW (y : Int) (r : Nat) : Int := IntKind.u64.wrap (y * 2 ^ (64 - r))
theorem shr_or {y : Nat → Int} (hy : Words y) {r : Nat} (hr : r < 64) (q i : Nat) : orW (y (q + i) / 2 ^ r) (dnW (y (q + i + 1)) r) = shrW y q r i := by
  unfold shrW dnW
  by_cases h : r = 0
  · subst h
    rw [if_pos rfl, wrap_mod]
    have e : y (q + i + 1) * 2 ^ (64 - 0) % 18446744073709551616 = 0 := Int.mul_emod_left _ _
    rw [e, Int.pow_zero, Int.ediv_one, orW_zero _ (hy _)]
  · rw [if_neg h]
theorem Num.drop {w : World} {b off n c q : Nat} {x : Nat → Int} (h : Num w (some ⟨b, off, none⟩) n c x) (hq : q ≤ n) : Num w (some ⟨b, off + q, none⟩) (n - q) (c - q) (fun i => x (q + i)) := by
  obtain ⟨h1, h2, h3, h4, h5⟩ := h
  refine ⟨by omega, by omega, fun i => h3 (q + i), fun i hi => h4 (q + i) (by omega), ?_⟩
  rcases h5 with ⟨h5, _⟩ | ⟨b', off', h6, h7, h8⟩
  · cases h5
  · cases h6
    exact Or.inr ⟨b, off + q, rfl, h7, fun i hi => by have := h8 (q + i) (by omega); rw [Nat.add_assoc]; exact this⟩
theorem Num.take {w : World} {b off n c q : Nat} {x : Nat → Int} (h : Num w (some ⟨b, off, none⟩) n c x) (hq : q ≤ n) : Num w (some ⟨b, off, none⟩) q c (segW x 0 q) := by
  obtain ⟨h1, h2, h3, h4, h5⟩ := h
  refine ⟨by omega, by omega, segW_words h3 0 q, fun i hi => segW_zero x 0 q i hi, ?_⟩
  rcases h5 with ⟨h5, _⟩ | ⟨b', off', h6, h7, h8⟩
  · cases h5
  · cases h6
    exact Or.inr ⟨b, off, rfl, h7, fun i hi => by rw [h8 i (by omega), segW_lt x 0 q i hi, Nat.zero_add]⟩
end Go.Proofs.Ytpgihikbdmmdpaa

namespace Go.Proofs.Ytpgihikbdmmdpaa
open Go.RowKit

/-- what is left, and the divisor, by their two highest words and what is below -/
structure Gs (R D u1 u0 v1 v0 P a b : Int) : Prop where
  hR : R = a + (u1 * 18446744073709551616 + u0) * (P * 18446744073709551616)
  hD : D = b + (v1 * 18446744073709551616 + v0) * P
  p : 0 < P
  a0 : 0 ≤ a
  a1 : a < P * 18446744073709551616
  b0 : 0 ≤ b
  b1 : b < P
  u1w : 0 ≤ u1 ∧ u1 ≤ 18446744073709551615
  u0w : 0 ≤ u0 ∧ u0 ≤ 18446744073709551615
  v1w : 9223372036854775808 ≤ v1 ∧ v1 ≤ 18446744073709551615
  v0w : 0 ≤ v0 ∧ v0 ≤ 18446744073709551615
  lt : R < D * 18446744073709551616

section
variable {R D u1 u0 v1 v0 P a b : Int}
theorem Gs.highR (h : Gs R D u1 u0 v1 v0 P a b) : R < ((u1 * 18446744073709551616 + u0) + 1) * 18446744073709551616 * P := by
  have := h.hR; have := h.a1
  have e : ((u1 * 18446744073709551616 + u0) + 1) * 18446744073709551616 * P = (u1 * 18446744073709551616 + u0) * (P * 18446744073709551616) + P * 18446744073709551616 := by grind
  omega
theorem Gs.lowD (h : Gs R D u1 u0 v1 v0 P a b) : (v1 * 18446744073709551616 + v0) * P ≤ D := by have := h.hD; have := h.b0; omega
/-- products of a digit with the divisor, from both sides -/
theorem Gs.times_ge (h : Gs R D u1 u0 v1 v0 P a b) {k N : Int} (hk : 0 ≤ k) (hN : N ≤ k * (v1 * 18446744073709551616 + v0)) : N * P ≤ k * D := by
  have h1 : k * ((v1 * 18446744073709551616 + v0) * P) ≤ k * D := Int.mul_le_mul_of_nonneg_left h.lowD hk
  have h2 : N * P ≤ k * (v1 * 18446744073709551616 + v0) * P := Int.mul_le_mul_of_nonneg_right hN (Int.le_of_lt h.p)
  rw [Int.mul_assoc] at h2
  omega
/-- the first guess is not too small -/
theorem Gs.first (h : Gs R D u1 u0 v1 v0 P a b) : R < ((u1 * 18446744073709551616 + u0) / v1 + 1) * D := by
  have hv : 0 < v1 := by have := h.v1w; omega
  have h1 := h.highR
  have hq := Int.lt_mul_ediv_self_add (x := u1 * 18446744073709551616 + u0) hv
  have hq0 : 0 ≤ (u1 * 18446744073709551616 + u0) / v1 := Int.ediv_nonneg (by have := h.u1w; have := h.u0w; omega) (Int.le_of_lt hv)
  have := h.v0w
  generalize (u1 * 18446744073709551616 + u0) / v1 = k at *
  have h2 : (u1 * 18446744073709551616 + u0 + 1) * 18446744073709551616 ≤ (k + 1) * (v1 * 18446744073709551616 + v0) := by
    have e : (k + 1) * (v1 * 18446744073709551616 + v0) = (v1 * k + v1) * 18446744073709551616 + (k + 1) * v0 := by grind
    have : 0 ≤ (k + 1) * v0 := Int.mul_nonneg (by omega) (by omega)
    omega
  have h3 := h.times_ge (by omega) h2
  omega
end

/-- words shifted down: their value -/
theorem dn_val {y : Nat → Int} (hy : Words y) {r : Nat} (hr : r < 64) : ∀ m, val (shrW y 0 r) m * 2 ^ r + y 0 % 2 ^ r = val y m + y m % 2 ^ r * 18446744073709551616 ^ m
  | 0 => by simp [val]
  | m + 1 => by
    have ih := dn_val hy hr m
    have hp := p2_pos r
    have e1 : shrW y 0 r m = y m / 2 ^ r + y (m + 1) % 2 ^ r * 2 ^ (64 - r) := by
      have h1 := shr_or hy hr 0 m
      rw [Nat.zero_add] at h1
      rw [← h1]
      unfold dnW
      have hme : y (m + 1) * 2 ^ (64 - r) % 18446744073709551616 = y (m + 1) % 2 ^ r * 2 ^ (64 - r) := by
        have h3 := Int.mul_emod_mul_of_pos (y (m + 1)) (2 ^ r) (p2_pos (64 - r))
        rw [← p2_split (show r ≤ 64 by omega), Int.mul_comm (y (m + 1)), h3, Int.mul_comm]
      have hlt : y m / 2 ^ r < 2 ^ (64 - r) := by
        refine Int.ediv_lt_of_lt_mul hp ?_
        rw [p2_split (show r ≤ 64 by omega)]
        have := hy m; omega
      by_cases h0 : r = 0
      · subst h0
        have : y (m + 1) * 2 ^ (64 - 0) % 18446744073709551616 = 0 := Int.mul_emod_left _ _
        rw [wrap_mod, this, orW_zero _ (div_word _ _ (hy m))]
        simp [Int.emod_one]
      · have h64 : 64 - (64 - r) = r := by omega
        have ho := or_shl (y := y (m + 1)) (b := y m / 2 ^ r) (r := 64 - r) (by omega) (hy (m + 1)).1 ⟨(div_word _ _ (hy m)).1, hlt⟩
        rw [ho, hme]; omega
    show (val (shrW y 0 r) m + shrW y 0 r m * 18446744073709551616 ^ m) * 2 ^ r + y 0 % 2 ^ r = val y m + y m * 18446744073709551616 ^ m + y (m + 1) % 2 ^ r * 18446744073709551616 ^ (m + 1)
    have e2 := Int.emod_add_mul_ediv (y m) (2 ^ r)
    have e3 := p2_split (show r ≤ 64 by omega)
    rw [e1, Int.pow_succ]
    generalize (18446744073709551616 : Int) ^ m = Q at *
    generalize y m / 2 ^ r = A at *
    generalize y m % 2 ^ r = A' at *
    generalize y (m + 1) % 2 ^ r = C at *
    generalize y 0 % 2 ^ r = Z at *
    generalize (2 : Int) ^ (64 - r) = T at *
    generalize (2 : Int) ^ r = S at *
    grind
end Go.Proofs.Ytpgihikbdmmdpaa

namespace Go.Proofs.Ytpgihikbdmmdpaa
open Go.RowKit

theorem seg_next (z : Nat → Int) (off j : Nat) : val (segW z off (j + 1)) (j + 1) = val (segW z off j) j + z (off + j) * 18446744073709551616 ^ j := by
  show val (segW z off (j + 1)) j + segW z off (j + 1) j * 18446744073709551616 ^ j = _
  rw [segW_lt z off (j + 1) j (by omega), val_congr (x := segW z off (j + 1)) (y := segW z off j) j fun i hi => by rw [segW_lt _ _ _ i (by omega), segW_lt _ _ _ i hi]]
end Go.Proofs.Ytpgihikbdmmdpaa

namespace Go.Proofs.Ytpgihikbdmmdpaa
open Go.RowKit
theorem val_split (z : Nat → Int) (j : Nat) : ∀ m, val z (j + m) = val z j + val (segW z j m) m * 18446744073709551616 ^ j
  | 0 => by simp [val]
  | m + 1 => by
    rw [seg_next]
    show val z (j + m) + z (j + m) * 18446744073709551616 ^ (j + m) = _
    rw [val_split z j m, Int.pow_add]; grind
end Go.Proofs.Ytpgihikbdmmdpaa

namespace Go.Proofs.Ytpgihikbdmmdpaa
open Go.RowKit
theorem quo_val {x : Nat → Int} {d : Int} (hx : Words x) (hd : 0 < d) (m : Nat) : val (quoW x d m) m = val x m / d ∧ remJ x d m m = val x m % d := by
  have h := div_val x d m m (Nat.le_refl _)
  simp only [Nat.sub_self, val, Int.pow_zero, Int.mul_one, Int.zero_add, Int.sub_zero] at h
  have hb := remJ_bd x d m m hd
  have e := (Int.ediv_emod_unique hd (a := val x m) (r := remJ x d m m) (q := val (quoW x d m) m)).2 ⟨h, hb.1, hb.2⟩
  exact ⟨e.1.symm, e.2.symm⟩
end Go.Proofs.Ytpgihikbdmmdpaa

namespace Go.Proofs.Ytpgihikbdmmdpaa
open Go.RowKit

theorem p64' (q r : Nat) : (18446744073709551616 : Int) ^ q * 2 ^ r = 2 ^ (64 * q + r) := by rw [Int.mul_comm]; exact p64 q r
/-- a number lies between two powers of two, by its length -/
theorem len_bd {x : Nat → Int} (hx : Words x) {n : Nat} (h : 0 < sizeL x n) : ∃ L : Nat, lenL x n = (L : Int) + 1 ∧ 2 ^ L ≤ val x n ∧ val x n < 2 ^ (L + 1) := by
  obtain ⟨j, hj⟩ : ∃ j, sizeL x n = j + 1 := ⟨sizeL x n - 1, by omega⟩
  have ht := sizeL_top (x := x) n h
  rw [hj] at ht
  have hxj := hx j
  have hne : x j ≠ 0 := ht
  obtain ⟨u, hu⟩ := Int.eq_ofNat_of_zero_le hxj.1
  have hb := bitLen_spec u (by omega) (by omega)
  have hv : val x n = val x j + x j * 18446744073709551616 ^ j := by rw [← val_bare n, hj]; rfl
  have hbd := val_bd hx j
  have hP := pw_pos j
  refine ⟨64 * j + (Lib.bitLen u - 1), ?_, ?_, ?_⟩
  · unfold lenL; rw [if_neg (by omega), hj]
    show 64 * ((j + 1 : Nat) : Int) - 64 + (Lib.bitLen (x j).toNat : Nat) = _
    rw [hu, Int.toNat_natCast]; omega
  · rw [hv, ← p64', hu]
    have h1 : (2 : Int) ^ (Lib.bitLen u - 1) ≤ u := by rw [← powCast]; omega
    have h2 : 18446744073709551616 ^ j * 2 ^ (Lib.bitLen u - 1) ≤ 18446744073709551616 ^ j * (u : Int) := Int.mul_le_mul_of_nonneg_left h1 (Int.le_of_lt hP)
    rw [Int.mul_comm _ (u : Int)] at h2
    omega
  · rw [hv, show 64 * j + (Lib.bitLen u - 1) + 1 = 64 * j + Lib.bitLen u by omega, ← p64', hu]
    have h1 : (u : Int) + 1 ≤ 2 ^ Lib.bitLen u := by rw [← powCast]; omega
    have h2 : 18446744073709551616 ^ j * ((u : Int) + 1) ≤ 18446744073709551616 ^ j * 2 ^ Lib.bitLen u := Int.mul_le_mul_of_nonneg_left h1 (Int.le_of_lt hP)
    rw [Int.mul_add, Int.mul_one, Int.mul_comm _ (u : Int)] at h2
    omega
end Go.Proofs.Ytpgihikbdmmdpaa

namespace Go.Proofs.Ytpgihikbdmmdpaa
open Go.RowKit

theorem times_val (b off n c b' off' n' c' : Nat) (x y : Nat → Int) (w : World) (hn : n < 1000000) (hn' : n' < 1000000) (h : Num w (some ⟨b, off, none⟩) n c x) (h' : Num w (some ⟨b', off', none⟩) n' c' y) :
    Calls Try.prog 39 #[.slice (some ⟨b, off, none⟩) n c, .slice (some ⟨b', off', none⟩) n' c'] w fun e w' => ∃ g k cap z, e = .returned (.slice (some ⟨g, 0, none⟩) k cap) ∧ k ≤ n + n' + 1 ∧ Num w' (some ⟨g, 0, none⟩) k cap z ∧ val z k = val x n * val y n' ∧ Below w.heap.size w w' :=
  (times_raw b off n c b' off' n' c' x y w hn hn' h h').mono fun e w' ⟨g, k, cap, z, e1, hk, hN, hv, hB⟩ => ⟨g, k, cap, z, e1, hk, hN, by rw [← hv, val_more hN.2.2.2.1 _ hk], hB⟩

end Go.Proofs.Ytpgihikbdmmdpaa

namespace Go.Proofs.Ytpgihikbdmmdpaa
open Go.RowKit

/-- words shifted down, by whole words and bits: their value -/
theorem shrW_val {y : Nat → Int} {n q r A : Nat} (hy : Words y) (hz : ∀ i, n ≤ i → y i = 0) (hr : r < 64) (m : Nat) (hm : n ≤ m) (hA : val y n = A) : val (shrW y q r) m = ((A / 2 ^ (64 * q + r) : Nat) : Int) := by
  have hw : Words (fun i => y (q + i)) := fun i => hy (q + i)
  have e1 : shrW y q r = shrW (fun i => y (q + i)) 0 r := by
    funext j; unfold shrW; simp only [Nat.zero_add, Nat.add_assoc]
  have h1 := dn_val hw hr m
  have h2 : y (q + m) = 0 := hz _ (by omega)
  simp only [h2, Int.zero_emod, Int.zero_mul, Int.add_zero, Nat.add_zero] at h1
  have h3 := val_split y q m
  have h4 : val (segW y q m) m = val (fun i => y (q + i)) m := val_congr m fun i hi => segW_lt y q m i hi
  rw [h4, val_more hz (q + m) (by omega), hA] at h3
  rw [e1]
  have hb1 := val_bd hy q
  have hb2 := val_bd (shrW_words hw (q := 0) (r := r)) m
  have hp : (0 : Int) < 2 ^ r := p2_pos r
  have hm1 := Int.emod_nonneg (y q) (Int.ne_of_gt hp)
  have hm2 := Int.emod_lt_of_pos (y q) hp
  generalize val (shrW (fun i => y (q + i)) 0 r) m = S at *
  generalize val (fun i => y (q + i)) m = Z at *
  have eZ : Z / 2 ^ r = S := by
    rw [← h1, Int.add_comm, Int.add_mul_ediv_right _ _ (Int.ne_of_gt hp), Int.ediv_eq_zero_of_lt hm1 hm2, Int.zero_add]
  have eA : (A : Int) / 18446744073709551616 ^ q = Z := by
    rw [h3, Int.add_mul_ediv_right _ _ (Int.ne_of_gt (pw_pos q)), Int.ediv_eq_zero_of_lt hb1.1 hb1.2, Int.zero_add]
  rw [← eZ, ← eA, Int.natCast_ediv, Int.ediv_ediv_of_nonneg (Int.le_of_lt (pw_pos q)), p64']
  simp
end Go.Proofs.Ytpgihikbdmmdpaa

namespace Go.Proofs.Ytpgihikbdmmdpaa
open Go.RowKit

/-- the words of a number -/
def W4 (A : Nat) (i : Nat) : Int := ((A / 2 ^ (64 * i) % 18446744073709551616 : Nat) : Int)
/-- a number of four words -/
abbrev A4 (A : Nat) : Value := .agg #[.int .u64 (W4 A 0), .int .u64 (W4 A 1), .int .u64 (W4 A 2), .int .u64 (W4 A 3)]
theorem W4_words (A : Nat) : Words (W4 A) := fun i => by
  unfold W4
  have := Nat.mod_lt (A / 2 ^ (64 * i)) (show 0 < 18446744073709551616 by decide)
  omega
theorem p64n (n : Nat) : (18446744073709551616 : Int) ^ n = ((2 ^ (64 * n) : Nat) : Int) := by
  rw [Nat.pow_mul]
  simp
theorem W4_val (A : Nat) : ∀ n, val (W4 A) n = ((A % 2 ^ (64 * n) : Nat) : Int)
  | 0 => by simp [val, Nat.mod_one]
  | n + 1 => by
    show val (W4 A) n + W4 A n * 18446744073709551616 ^ n = _
    have e : A % 2 ^ (64 * (n + 1)) = A % 2 ^ (64 * n) + 2 ^ (64 * n) * (A / 2 ^ (64 * n) % 18446744073709551616) := by
      rw [show 64 * (n + 1) = 64 * n + 64 by omega, Nat.pow_add]
      exact Nat.mod_mul
    rw [W4_val A n, p64n, e]
    unfold W4
    rw [Int.natCast_add, Int.natCast_mul, Int.mul_comm]
theorem W4_val4 {A : Nat} (h : A < 2 ^ 256) : val (W4 A) 4 = A := by
  rw [W4_val, Nat.mod_eq_of_lt h]
theorem arr_eq {x y : Nat → Int} (hx : Words x) (hy : Words y) (h : val x 4 = val y 4) : arrOf x 4 = arrOf y 4 :=
  arrOf_congr (val_inj hx hy 4 h)
theorem arr_A4 {x : Nat → Int} (hx : Words x) {A : Nat} (h : val x 4 = ((A % 2 ^ 256 : Nat) : Int)) : Value.agg (arrOf x 4) = A4 A := by
  have e : arrOf x 4 = arrOf (W4 A) 4 := arr_eq hx (W4_words A) (by rw [h, W4_val])
  rw [e]; rfl
theorem A4_inj {A B : Nat} (hA : A < 2 ^ 256) (hB : B < 2 ^ 256) (h : ∀ i, i < 4 → W4 A i = W4 B i) : A = B := by
  have := val_congr (x := W4 A) (y := W4 B) 4 h
  rw [W4_val4 hA, W4_val4 hB] at this
  omega
/-- every pattern is a number's words -/
theorem words_A4 {x : Nat → Int} (hx : Words x) : ∃ A, A < 2 ^ 256 ∧ Value.agg (arrOf x 4) = A4 A ∧ val x 4 = A := by
  have hb := val_bd hx 4
  have e : (18446744073709551616 : Int) ^ 4 = ((2 ^ 256 : Nat) : Int) := by decide
  rw [e] at hb
  obtain ⟨A, hA⟩ := Int.eq_ofNat_of_zero_le hb.1
  have hlt : A < 2 ^ 256 := by rw [hA] at hb; exact Int.ofNat_lt.1 hb.2
  exact ⟨A, hlt, arr_A4 hx (by rw [Nat.mod_eq_of_lt hlt]; exact hA), hA⟩

theorem add4 (A B : Nat) (w : World) (hA : A < 2 ^ 256) (hB : B < 2 ^ 256) :
    Calls Try.prog 26 #[A4 A, A4 B] w fun e w' => e = .returned (.tuple #[A4 (A + B), .int .u64 (((A + B) / 2 ^ 256 : Nat) : Int)]) ∧ Below w.heap.size w w' := by
  refine (limAdd4 (W4 A) (W4 B) w (W4_words A) (W4_words B)).mono ?_
  rintro e w' ⟨rfl, hb⟩
  refine ⟨?_, hb⟩
  have hs := sum_val (x := W4 A) (y := W4 B) 4
  have hc := carryW_01 (W4_words A) (W4_words B) 4
  have hv := val_bd (sumW_words (W4 A) (W4 B)) 4
  rw [W4_val4 hA, W4_val4 hB] at hs
  have e4 : (18446744073709551616 : Int) ^ 4 = 115792089237316195423570985008687907853269984665640564039457584007913129639936 := by decide
  have e4n : (2 : Nat) ^ 256 = 115792089237316195423570985008687907853269984665640564039457584007913129639936 := by decide
  rw [e4] at hs hv
  rw [e4n] at hA hB ⊢
  rw [arr_A4 (sumW_words _ _) (A := A + B) (by rw [e4n]; omega)]
  have : carryW (W4 A) (W4 B) 4 = (((A + B) / 115792089237316195423570985008687907853269984665640564039457584007913129639936 : Nat) : Int) := by omega
  rw [this]
theorem shl4 (A n : Nat) (w : World) (hA : A < 2 ^ 256) (hn : n ≤ 100000) :
    Calls Try.prog 27 #[A4 A, .int .i64 n] w fun e w' => e = .returned (A4 (A * 2 ^ n)) ∧ Below w.heap.size w w' := by
  refine (shlA4 (W4 A) n w (W4_words A) (by omega)).mono ?_
  rintro e w' ⟨rfl, hb⟩
  refine ⟨?_, hb⟩
  congr 1
  by_cases h1 : n = 0
  · subst h1
    have e : shlA (W4 A) ((0 : Nat) : Int) = W4 A := by funext j; unfold shlA; rw [if_pos (by omega)]
    rw [e, Nat.pow_zero, Nat.mul_one]; rfl
  refine arr_A4 (shlA_words (W4_words A) _) ?_
  have hlow := shlL_fin (W4_words A) (N := 4) (((n : Int) / 64).toNat) (((n : Int) % 64).toNat)
  have es : shlA (W4 A) (n : Int) = shlL (W4 A) ((n : Int) / 64).toNat ((n : Int) % 64).toNat := by funext j; unfold shlA; rw [if_neg (by omega)]
  rw [es]
  obtain ⟨q, hq⟩ : ∃ q : Nat, ((n : Int) / 64).toNat = q := ⟨_, rfl⟩
  obtain ⟨r, hr⟩ : ∃ r : Nat, ((n : Int) % 64).toNat = r := ⟨_, rfl⟩
  rw [hq, hr] at hlow ⊢
  have hn : n = 64 * q + r := by omega
  have hr6 : r < 64 := by omega
  have h4 : val (shlL (W4 A) q r) 4 = val (finL (lowW (W4 A) 4) q r) 4 := by
    refine val_congr 4 fun i hi => ?_
    have := congrFun hlow i
    rw [lowW_lt hi, lowW_lt hi] at this
    exact this
  have hlw : Words (lowW (W4 A) 4) := lowW_words (W4_words A) 4
  have hz : ∀ i, 4 ≤ i → lowW (W4 A) 4 i = 0 := fun i hi => lowW_ge hi
  have hF := finL_val hlw hz q hr6
  have hvl : val (lowW (W4 A) 4) 4 = A := by
    rw [val_congr (x := lowW (W4 A) 4) (y := W4 A) 4 (fun i hi => lowW_lt hi), W4_val4 hA]
  rw [hvl, ← hn] at hF
  have hsp := val_split (finL (lowW (W4 A) 4) q r) 4 (q + 1)
  rw [show 4 + (q + 1) = 4 + q + 1 by omega, hF] at hsp
  have hbd := val_bd (finL_words hlw (q := q) (r := r)) 4
  have e4 : (18446744073709551616 : Int) ^ 4 = ((2 ^ 256 : Nat) : Int) := by decide
  rw [e4] at hbd hsp
  rw [h4]
  have : (A : Int) * 2 ^ n = ((A * 2 ^ n : Nat) : Int) := by simp
  rw [this] at hsp
  have h5 := congrArg (· % ((2 ^ 256 : Nat) : Int)) hsp
  simp only [Int.add_mul_emod_self_right, Int.emod_eq_of_lt hbd.1 hbd.2] at h5
  rw [← h5]
  rfl
theorem shr4 (A n : Nat) (w : World) (hA : A < 2 ^ 256) (hn : n ≤ 100000) :
    Calls Try.prog 34 #[A4 A, .int .i64 n] w fun e w' => e = .returned (A4 (A / 2 ^ n)) ∧ Below w.heap.size w w' := by
  refine (shrA4 (W4 A) n w (W4_words A) (by omega)).mono ?_
  rintro e w' ⟨rfl, hb⟩
  refine ⟨?_, hb⟩
  congr 1
  by_cases h1 : n = 0
  · subst h1
    have e : shrA (W4 A) ((0 : Nat) : Int) 4 = W4 A := by funext j; unfold shrA; rw [if_pos (by omega)]
    rw [e, Nat.pow_zero, Nat.div_one]; rfl
  refine arr_A4 (shrA_words (W4_words A) _ _) ?_
  have hlow := shrL_fin (W4_words A) (N := 4) (((n : Int) / 64).toNat) (((n : Int) % 64).toNat)
  have es : shrA (W4 A) (n : Int) 4 = shrL (W4 A) ((n : Int) / 64).toNat ((n : Int) % 64).toNat 4 := by funext j; unfold shrA; rw [if_neg (by omega)]
  rw [es]
  obtain ⟨q, hq⟩ : ∃ q : Nat, ((n : Int) / 64).toNat = q := ⟨_, rfl⟩
  obtain ⟨r, hr⟩ : ∃ r : Nat, ((n : Int) % 64).toNat = r := ⟨_, rfl⟩
  rw [hq, hr] at hlow ⊢
  have hn : n = 64 * q + r := by omega
  have hr6 : r < 64 := by omega
  have h4 : val (shrL (W4 A) q r 4) 4 = val (shrW (lowW (W4 A) 4) q r) 4 := by
    refine val_congr 4 fun i hi => ?_
    have := congrFun hlow i
    rw [lowW_lt hi] at this
    exact this
  rw [h4]
  exact (shrW_val (lowW_words (W4_words A) 4) (fun i hi => lowW_ge hi) hr6 4 (Nat.le_refl _) (by
    rw [val_congr (x := lowW (W4 A) 4) (y := W4 A) 4 (fun i hi => lowW_lt hi), W4_val4 hA])).trans (by rw [← hn, Nat.mod_eq_of_lt (Nat.lt_of_le_of_lt (Nat.div_le_self _ _) hA)])
theorem len4_le {A k : Nat} (hA : A < 2 ^ 256) : lenL (W4 A) 4 ≤ (k : Int) ↔ A < 2 ^ k := by
  have hv := W4_val4 hA
  by_cases h0 : 0 < sizeL (W4 A) 4
  · obtain ⟨L, h1, h2, h3⟩ := len_bd (W4_words A) h0
    rw [hv] at h2 h3
    rw [h1]
    have h2' : 2 ^ L ≤ A := by have : ((2 ^ L : Nat) : Int) ≤ A := by simpa using h2
                               omega
    have h3' : A < 2 ^ (L + 1) := by have : (A : Int) < ((2 ^ (L + 1) : Nat) : Int) := by simpa using h3
                                     omega
    constructor
    · intro h
      exact Nat.lt_of_lt_of_le h3' (Nat.pow_le_pow_right (by decide) (by omega))
    · intro h
      have : 2 ^ L < 2 ^ k := Nat.lt_of_le_of_lt h2' h
      have := (Nat.pow_lt_pow_iff_right (a := 2) (by decide)).1 this
      omega
  · have hz : sizeL (W4 A) 4 = 0 := by omega
    have hl : lenL (W4 A) 4 = 0 := by unfold lenL; rw [if_pos hz]
    have hA0 : (A : Int) = 0 := by
      rw [← hv, ← val_bare 4, hz]; rfl
    rw [hl]
    have : A = 0 := by omega
    subst this
    exact ⟨fun _ => Nat.two_pow_pos k, fun _ => by omega⟩
theorem len4_zero {A : Nat} (hA : A < 2 ^ 256) : lenL (W4 A) 4 = 0 ↔ A = 0 := by
  have h := len4_le (k := 0) hA
  have h2 : 0 ≤ lenL (W4 A) 4 := by
    by_cases h0 : 0 < sizeL (W4 A) 4
    · obtain ⟨L, h1, _⟩ := len_bd (W4_words A) h0
      omega
    · unfold lenL; rw [if_pos (by omega)]; exact Int.le_refl _
  constructor
  · intro h3; have := h.1 (by omega); omega
  · intro h3; have := h.2 (by omega); omega
theorem len4' (A : Nat) (w : World) : Calls Try.prog 29 #[A4 A] w fun e w' => e = .returned (.int .i64 (lenL (W4 A) 4)) ∧ Below w.heap.size w w' := len4 (W4 A) w (W4_words A)
set_option maxHeartbeats 400000 in
theorem of4 (u : Nat) (w : World) (hu : u < 18446744073709551616) :
    Calls Try.prog 28 #[.int .u64 u] w fun e w' => e = .returned (A4 u) ∧ Below w.heap.size w w' := by
  have e0 : W4 u 0 = u := by unfold W4; rw [Nat.mul_zero, Nat.pow_zero, Nat.div_one, Nat.mod_eq_of_lt hu]
  have e1 : ∀ i, 0 < i → W4 u i = 0 := fun i hi => by
    unfold W4
    have : u < 2 ^ (64 * i) := Nat.lt_of_lt_of_le hu (by rw [show (18446744073709551616 : Nat) = 2 ^ 64 by decide]; exact Nat.pow_le_pow_right (by decide) (by omega))
    rw [Nat.div_eq_of_lt this]; rfl
  unfold A4
  rw [e0, e1 1 (by decide), e1 2 (by decide), e1 3 (by decide)]
  go_enter Try.func28, Try.ntmps28
  go_wp2
  exact bodyPost_ret (v := .agg #[.int .u64 u, .int .u64 0, .int .u64 0, .int .u64 0]) (by simp [results, Try.results28, go_sem]) rfl ⟨rfl, ((Below.refl _ _).alloc (Nat.le_refl _) _).alloc (by simp) _⟩
end Go.Proofs.Ytpgihikbdmmdpaa
