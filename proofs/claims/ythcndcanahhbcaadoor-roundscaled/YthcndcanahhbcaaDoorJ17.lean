/-
  Texts that the proof leans on, joined: Wm, Wa.
-/
import Derived.Test.YthcndcanahhbcaaDoorJ16
import Derived.Test.YthcndcanahhbcaaDoorJ4
import Derived.Test.YthcndcanahhbcaaDoorJ22
import Derived.Test.YthcndcanahhbcaaDoorJ9
import Derived.Test.YthcndcanahhbcaaDoorJ11
/-
  The document's rounding, by value, is round.Binary's: plain algebra.
-/
set_option linter.unusedVariables false
set_option linter.unusedSectionVars false
set_option linter.unusedSimpArgs false
set_option maxRecDepth 20000
namespace Go.Proofs.YthcndcanahhbcaaDoor
open Go.RowKit

/-- the exponent as the document takes it -/
def clZ (x : Int) : Int := min (max x (-200000)) 200000
def sN (N : Nat) (x : Int) : Nat := N * 2 ^ (clZ x).toNat
def sD (D : Nat) (x : Int) : Nat := D * 2 ^ (-(clZ x)).toNat
def lowE (N D : Nat) : Int := if sN N (-((bl N : Int) - bl D)) < sD D (-((bl N : Int) - bl D)) then (bl N : Int) - bl D - 1 else (bl N : Int) - bl D
def whC (d : Int) (s : Bool) (A B : Nat) : Nat := if faB d s (decide (A / B % 2 = 1)) (A % B) B then A / B + 1 else A / B
def dLow (N D : Nat) (x : Int) : Int := lowE (sN N x) (sD D x)
def dQ (n : Int) (N D : Nat) (x : Int) : Int := max (leastN n) (dLow N D x - ((fN n : Int) + 1) + 1)
def dA (n : Int) (N D : Nat) (x : Int) : Nat := sN (sN N x) (-(dQ n N D x))
def dB (n : Int) (N D : Nat) (x : Int) : Nat := sD (sD D x) (-(dQ n N D x))
def dC (n d : Int) (s : Bool) (N D : Nat) (x : Int) : Nat := whC d s (dA n N D x) (dB n N D x)
def dC' (n d : Int) (s : Bool) (N D : Nat) (x : Int) : Nat := if (fN n : Int) + 1 < (bl (dC n d s N D x) : Int) then dC n d s N D x / 2 else dC n d s N D x
def dQ' (n d : Int) (s : Bool) (N D : Nat) (x : Int) : Int := if (fN n : Int) + 1 < (bl (dC n d s N D x) : Int) then dQ n N D x + 1 else dQ n N D x
def doV (n d : Int) (s : Bool) (N D : Nat) (x : Int) : Nat := if N = 0 then pkV n ⟨1, s, false, leastN n, 0⟩ else if mostN n < dQ' n d s N D x then (if inB d s then pkV n ⟨2, s, false, 0, 0⟩ else lgV n s) else pkV n ⟨1, s, false, dQ' n d s N D x, dC' n d s N D x⟩
def doF (n d : Int) (s : Bool) (N D : Nat) (x : Int) : Int := if N = 0 then 0 else if mostN n < dQ' n d s N D x then 10 else if dA n N D x % dB n N D x = 0 then 0 else if dLow N D x < leastN n + ((fN n : Int) + 1) - 1 then 12 else 8

theorem sc_frac (N D a b : Nat) {n : Int} (h : (a : Int) - b = n) : ∃ κ, N * 2 ^ a = N * 2 ^ n.toNat * 2 ^ κ ∧ D * 2 ^ b = D * 2 ^ (-n).toNat * 2 ^ κ := by
  refine ⟨a - n.toNat, ?_, ?_⟩
  · rw [Nat.mul_assoc, ← Nat.pow_add]; congr 2; omega
  · rw [Nat.mul_assoc, ← Nat.pow_add]; congr 2; omega
theorem fa_sc (d : Int) (s o : Bool) (R D k : Nat) (hk : 0 < k) : faB d s o (R * k) (D * k) = faB d s o R D := by
  have e1 : R * k = 0 ↔ R = 0 := by rw [Nat.mul_eq_zero]; omega
  have e2 : D * k < R * k + R * k ↔ D < R + R := by rw [← Nat.add_mul]; exact Nat.mul_lt_mul_right hk
  have e3 : R * k + R * k = D * k ↔ R + R = D := by rw [← Nat.add_mul]; exact Nat.mul_right_cancel_iff hk
  have e4 : D * k ≤ R * k + R * k ↔ D ≤ R + R := by rw [← Nat.add_mul]; exact Nat.mul_le_mul_right_iff hk
  unfold faB
  simp only [e1, e2, e3, e4]
theorem wh_sc (d : Int) (s : Bool) (N D a b : Nat) {n : Int} (h : (a : Int) - b = n) : whC d s (N * 2 ^ a) (D * 2 ^ b) = nrC d s N D n ∧ (N * 2 ^ a % (D * 2 ^ b) = 0 ↔ nrR N D n = 0) := by
  obtain ⟨κ, e1, e2⟩ := sc_frac N D a b h
  have hk := Nat.two_pow_pos κ
  rw [e1, e2]
  unfold whC nrC nrF nrQ nrR
  rw [Nat.mul_div_mul_right _ _ hk, Nat.mul_mod_mul_right, fa_sc d s _ _ _ _ hk]
  refine ⟨rfl, ?_⟩
  rw [Nat.mul_eq_zero]; omega
theorem bl_shift {V : Nat} (h : V ≠ 0) (a : Nat) : bl (V * 2 ^ a) = bl V + a := by
  obtain ⟨h1, h2, h3⟩ := bl_bd h
  refine bl_eq ?_ ?_
  · rw [show bl V + a - 1 = (bl V - 1) + a by omega, Nat.pow_add]
    exact Nat.mul_le_mul_right _ h1
  · rw [Nat.pow_add]
    exact Nat.mul_lt_mul_of_pos_right h2 (Nat.two_pow_pos _)
theorem ld_shift {N D : Nat} (hN : N ≠ 0) (hD : D ≠ 0) (a b : Nat) : ld (N * 2 ^ a) (D * 2 ^ b) = ld N D + ((a : Int) - b) := by
  unfold ld
  dsimp only
  rw [bl_shift hN, bl_shift hD]
  obtain ⟨p, hp⟩ : ∃ p : Int, (bl N : Int) - bl D = p := ⟨_, rfl⟩
  obtain ⟨p', hp'⟩ : ∃ p' : Int, ((bl N + a : Nat) : Int) - ((bl D + b : Nat) : Int) = p' := ⟨_, rfl⟩
  rw [hp, hp']
  have hpp : p' = p + ((a : Int) - b) := by omega
  obtain ⟨κ, e1, e2⟩ := sc_frac N D (a + (-p').toNat) (b + p'.toNat) (n := -p) (by omega)
  rw [Nat.pow_add, ← Nat.mul_assoc] at e1 e2
  rw [Int.neg_neg] at e2
  rw [e1, e2]
  have hk := Nat.two_pow_pos κ
  by_cases h : N * 2 ^ (-p).toNat < D * 2 ^ p.toNat
  · rw [if_pos h, if_pos (Nat.mul_lt_mul_of_pos_right h hk)]; omega
  · rw [if_neg h, if_neg (fun hh => h (Nat.lt_of_mul_lt_mul_right hh))]; omega
theorem low_bd (N D : Nat) : (bl N : Int) - bl D - 1 ≤ lowE N D ∧ lowE N D ≤ (bl N : Int) - bl D := by
  unfold lowE; split <;> omega
theorem low_ld {N D : Nat} (h1 : -200000 ≤ (bl N : Int) - bl D) (h2 : (bl N : Int) - bl D ≤ 200000) : lowE N D = ld N D := by
  unfold lowE ld sN sD
  have e : clZ (-((bl N : Int) - bl D)) = -((bl N : Int) - bl D) := by unfold clZ; omega
  dsimp only
  rw [e, Int.neg_neg]
theorem ld_p (N D : Nat) : (bl N : Int) - bl D - 1 ≤ ld N D ∧ ld N D ≤ (bl N : Int) - bl D := by
  unfold ld; dsimp only; split <;> omega
theorem fld_bd {n : Int} (hb : binN n) : -17000 ≤ leastN n ∧ leastN n ≤ mostN n ∧ mostN n ≤ 17000 ∧ fN n ≤ 240 ∧ 1 ≤ fN n := by
  rcases bin_cases hb with rfl | rfl | rfl | rfl | rfl | rfl <;> simp [leastN, mostN, fN, precN]
theorem sN_ne {N : Nat} (h : N ≠ 0) (x : Int) : sN N x ≠ 0 := Nat.mul_ne_zero h (Nat.pos_iff_ne_zero.1 (Nat.two_pow_pos _))
theorem sD_ne {N : Nat} (h : N ≠ 0) (x : Int) : sD N x ≠ 0 := Nat.mul_ne_zero h (Nat.pos_iff_ne_zero.1 (Nat.two_pow_pos _))
/-- what the document's low is: the fraction's place, or beyond all -/
theorem dlow_ways {N D : Nat} (hN : N ≠ 0) (hD : D ≠ 0) (x : Int) : dLow N D x = ld N D + clZ x ∨ (dLow N D x < -199999 ∧ ld N D + clZ x < -199999) ∨ (199999 ≤ dLow N D x ∧ 199999 ≤ ld N D + clZ x) := by
  have e1 := bl_shift hN (clZ x).toNat
  have e2 := bl_shift hD (-(clZ x)).toNat
  have hp := ld_p N D
  have hl := low_bd (sN N x) (sD D x)
  unfold dLow
  by_cases h : -200000 ≤ (bl (sN N x) : Int) - bl (sD D x) ∧ (bl (sN N x) : Int) - bl (sD D x) ≤ 200000
  · left
    rw [low_ld h.1 h.2]
    unfold sN sD
    rw [ld_shift hN hD]
    omega
  · right
    unfold sN sD at h hl ⊢
    rw [e1, e2] at h hl
    omega
/-- the fraction as the document scales it -/
theorem d_scale (n d : Int) (s : Bool) (N D : Nat) (x q : Int) (hq : -200000 ≤ q ∧ q ≤ 200000) : whC d s (sN (sN N x) (-q)) (sD (sD D x) (-q)) = nrC d s N D (clZ x - q) ∧ (sN (sN N x) (-q) % sD (sD D x) (-q) = 0 ↔ nrR N D (clZ x - q) = 0) := by
  have e : clZ (-q) = -q := by unfold clZ; omega
  have h1 : sN (sN N x) (-q) = N * 2 ^ ((clZ x).toNat + (-q).toNat) := by unfold sN; rw [e, Nat.mul_assoc, ← Nat.pow_add]
  have h2 : sD (sD D x) (-q) = D * 2 ^ ((-(clZ x)).toNat + (- -q).toNat) := by unfold sD; rw [e, Nat.mul_assoc, ← Nat.pow_add]
  rw [h1, h2]
  exact wh_sc d s N D _ _ (by omega)
theorem do_ways {n : Int} (d : Int) (s : Bool) {N D : Nat} (x : Int) (hb : binN n) (hN : N ≠ 0) (hD : D ≠ 0) (h1 : bl N ≤ 51200) (h2 : bl D ≤ 51200) :
    (mostN n < dQ n N D x ∧ mostN n < rQ n N D x) ∨ (dQ n N D x = rQ n N D x ∧ dC n d s N D x = rC n d s N D x ∧ (dA n N D x % dB n N D x = 0 ↔ nrR N D (rX n N D x - rQ n N D x) = 0) ∧ (dLow N D x < leastN n + ((fN n : Int) + 1) - 1 ↔ ld N D + rX n N D x < (fN n : Int) + leastN n)) := by
  obtain ⟨f1, f2, f3, f4, f5⟩ := fld_bd hb
  obtain ⟨l1, l2⟩ := ld_ab h1 h2
  have hw := dlow_ways hN hD x
  have hX : rX n N D x = min (max x (leastN n - 2 - ld N D)) (mostN n + ((fN n : Int) + 1) - ld N D) := rfl
  have hQ : rQ n N D x = max (leastN n) (ld N D + rX n N D x - ((fN n : Int) + 1) + 1) := rfl
  have hcl : clZ x = min (max x (-200000)) 200000 := rfl
  have hdQ : dQ n N D x = max (leastN n) (dLow N D x - ((fN n : Int) + 1) + 1) := rfl
  by_cases hB : mostN n + ((fN n : Int) + 1) - ld N D < x
  · left
    constructor <;> omega
  · right
    by_cases hC : x < leastN n - 2 - ld N D
    · have eq1 : dQ n N D x = leastN n := by omega
      have eq2 : rQ n N D x = leastN n := by omega
      have hs := d_scale n d s N D x (dQ n N D x) (by omega)
      obtain ⟨t1, t2, t3⟩ := nr_tiny (d := d) (s := s) hN hD (k := clZ x - dQ n N D x) (by omega)
      obtain ⟨u1, u2, u3⟩ := nr_tiny (d := d) (s := s) hN hD (k := rX n N D x - rQ n N D x) (by omega)
      refine ⟨by omega, ?_, ?_, by omega⟩
      · refine hs.1.trans ?_
        unfold rC nrC
        rw [t1, t2, u1, u2]
      · refine hs.2.trans ?_
        exact ⟨fun h => absurd h t3, fun h => absurd h u3⟩
    · have eX : rX n N D x = x := by omega
      have ecl : clZ x = x := by omega
      have eL : dLow N D x = ld N D + x := by omega
      have eq1 : dQ n N D x = rQ n N D x := by omega
      have hs := d_scale n d s N D x (dQ n N D x) (by omega)
      refine ⟨eq1, ?_, ?_, by omega⟩
      · refine hs.1.trans ?_
        unfold rC
        rw [ecl, eX, eq1]
      · refine hs.2.trans ?_
        rw [ecl, eX, eq1]
theorem do_eq {n : Int} (d : Int) (s : Bool) (N : Nat) {D : Nat} (x : Int) (hb : binN n) (hD : D ≠ 0) (h1 : bl N ≤ 51200) (h2 : bl D ≤ 51200) : doV n d s N D x = rdV n d s N D x ∧ doF n d s N D x = rdF n d s N D x := by
  by_cases hN : N = 0
  · unfold doV rdV doF rdF; rw [if_pos hN, if_pos hN, if_pos hN, if_pos hN]; exact ⟨rfl, rfl⟩
  rcases do_ways d s x hb hN hD h1 h2 with ⟨ha, hr⟩ | ⟨hq, hc, hx, hl⟩
  · have e1 : mostN n < dQ' n d s N D x := by unfold dQ'; split <;> omega
    have e2 : mostN n < rQ' n d s N D x := by unfold rQ'; split <;> omega
    unfold doV rdV doF rdF
    rw [if_neg hN, if_neg hN, if_neg hN, if_neg hN, if_pos e1, if_pos e1, if_pos e2, if_pos e2]
    exact ⟨rfl, rfl⟩
  · have e1 : dQ' n d s N D x = rQ' n d s N D x := by unfold dQ' rQ'; rw [hq, hc]
    have e2 : dC' n d s N D x = rC' n d s N D x := by unfold dC' rC'; rw [hc]
    unfold doV rdV doF rdF
    rw [if_neg hN, if_neg hN, if_neg hN, if_neg hN, e1, e2]
    by_cases ho : mostN n < rQ' n d s N D x
    · simp only [if_pos ho]; exact ⟨trivial, trivial⟩
    · simp only [if_neg ho]
      refine ⟨trivial, ?_⟩
      simp only [hx, hl, decide_eq_true_eq]
/-- what is packed has no more than 256 bits -/
theorem do_lt {n : Int} (d : Int) (s : Bool) {N D : Nat} (x : Int) (hb : binN n) (hN : N ≠ 0) (hD : D ≠ 0) (h1 : bl N ≤ 51200) (h2 : bl D ≤ 51200) (ho : ¬ mostN n < dQ' n d s N D x) : dC' n d s N D x < 2 ^ 256 := by
  rcases do_ways d s x hb hN hD h1 h2 with ⟨ha, hr⟩ | ⟨hq, hc, hx, hl⟩
  · exact absurd (show mostN n < dQ' n d s N D x by unfold dQ'; split <;> omega) ho
  · have e1 : dQ' n d s N D x = rQ' n d s N D x := by unfold dQ' rQ'; rw [hq, hc]
    have e2 : dC' n d s N D x = rC' n d s N D x := by unfold dC' rC'; rw [hc]
    rw [e1] at ho
    rw [e2]
    have hisd := r_isD hb hN hD ho
    obtain ⟨f1, f2, f3, f4, f5⟩ := fld_bd hb
    have h3 : rC' n d s N D x < 2 ^ (fN n + 1) := by
      rcases hisd with ⟨_, _, h, _⟩ | ⟨h, _⟩ | ⟨h, _⟩
      · exact h
      · have h' : (1 : Int) = 2 := h
        omega
      · have h' : (1 : Int) = 3 := h
        omega
    exact Nat.lt_of_lt_of_le h3 (Nat.pow_le_pow_right (by decide) (by omega))
end Go.Proofs.YthcndcanahhbcaaDoor

/-
  What the document's own Times, Left, Cmp, Len, Right, Trim, Over do, by value, for numbers of many words.
-/
set_option linter.unusedVariables false
set_option linter.unusedSectionVars false
set_option linter.unusedSimpArgs false
set_option maxRecDepth 20000
namespace Go.Proofs.YthcndcanahhbcaaDoor
open Go.RowKit


theorem NT.more {K K' V : Nat} {v : Value} {w : World} (h : NT K V v w) (hk : K ≤ K') : NT K' V v w := by
  obtain ⟨g, k, cap, z, h1, h2, h3, h4, h5⟩ := h
  exact ⟨g, k, cap, z, h1, by omega, h3, h4, h5⟩
theorem rtimes_nt {K K' A B : Nat} {v v' : Value} {w : World} (hK : K < 1000000) (hK' : K' < 1000000) (h : NV K A v w) (h' : NV K' B v' w) :
    Calls Tryd.prog 17 #[v, v'] w fun e w' => ∃ r, e = .returned r ∧ NT (K + K' + 1) (A * B) r w' ∧ Below w.heap.size w w' := by
  obtain ⟨g, k, c, z, rfl, hk, hN, hz⟩ := h
  obtain ⟨g2, k2, c2, z2, rfl, hk2, hN2, hz2⟩ := h'
  refine (times_tr g 0 k c g2 0 k2 c2 z z2 w (by omega) (by omega) hN hN2).mono fun e w' ⟨g3, k3, cap3, z3, e1, hk3, hN3, hv3, hB, ht⟩ => ⟨_, e1, ⟨g3, k3, cap3, z3, rfl, by omega, hN3, ?_, ht⟩, hB⟩
  rw [← val_more hN3.2.2.2.1 _ hk3, hv3, hz, hz2]; simp
theorem rleft_nt {K A : Nat} {v : Value} {w : World} (s : Nat) (hK : K < 1000000) (hs : s ≤ 6300000) (h : NV K A v w) :
    Calls Tryd.prog 84 #[v, .int .i64 s] w fun e w' => ∃ r, e = .returned r ∧ NT (K + s / 64 + 1) (A * 2 ^ s) r w' ∧ Below w.heap.size w w' := by
  obtain ⟨g, k, c, z, rfl, hk, hN, hz⟩ := h
  refine (fleft_val g 0 k c s z w (by omega) (by omega) (by omega) hN).mono fun e w' ⟨g3, k3, cap3, z3, e1, hk3, hN3, hv3, hB, hf, ht⟩ => ⟨_, e1, ⟨g3, k3, cap3, z3, rfl, by rw [Int.toNat_natCast] at hk3; omega, hN3, ?_, ht⟩, hB⟩
  rw [hv3, hz, Int.toNat_natCast]; simp
theorem rcmp_nv {K K' A B : Nat} {v v' : Value} {w : World} (hK : K < 1000000) (hK' : K' < 1000000) (h : NV K A v w) (h' : NV K' B v' w) :
    Calls Tryd.prog 21 #[v, v'] w fun e w' => e = .returned (.int .i64 (sgn (A : Int) B)) ∧ w = w' := by
  obtain ⟨g, k, c, z, rfl, hk, hN, hz⟩ := h
  obtain ⟨g2, k2, c2, z2, rfl, hk2, hN2, hz2⟩ := h'
  have := rcmp_any _ _ k c k2 c2 z z2 w (by omega) (by omega) hN hN2
  rw [hz, hz2] at this
  exact this
theorem rlen_nv {K V : Nat} {v : Value} {w : World} (hK : K < 1000000) (h : NV K V v w) :
    Calls Tryd.prog 70 #[v] w fun e w' => e = .returned (.int .i64 (bl V : Int)) ∧ w = w' := by
  obtain ⟨g, k, c, z, rfl, hk, hN, hz⟩ := h
  have := rlen_num _ k c z w (by omega) hN
  rw [len_bl hN.2.2.1 hz] at this
  exact this
theorem rtrim_nt {K V : Nat} {v : Value} {w : World} (hK : K < 1000000) (h : Nt K V v w) :
    Calls Tryd.prog 35 #[v] w fun e w' => ∃ r, e = .returned r ∧ NT K V r w' ∧ Below w.heap.size w w' := by
  obtain ⟨a, k, c, z, rfl, hk, hN, hz⟩ := h
  refine (trim_any a k c z w (by omega) hN).mono fun e w' ⟨g, cap, e1, hN', hB⟩ => ⟨_, e1, ⟨g, _, cap, z, rfl, Nat.le_trans (sizeL_le z k) hk, hN', ?_, sizeL_sizeL _ _⟩, hB⟩
  rw [val_bare, hz]
theorem rsize_nt {K V : Nat} {v : Value} {w : World} (hK : K < 1000000) (h : Nt K V v w) :
    ∃ m : Nat, (m ≤ K ∧ (m = 0 ↔ V = 0) ∧ ∀ j, m ≤ j ↔ bl V ≤ 64 * j) ∧ ∀ w', Below w.heap.size w w' → Calls Tryd.prog 19 #[v] w' fun e w'' => e = .returned (.int .i64 (m : Int)) ∧ w' = w'' := by
  obtain ⟨a, k, c, z, rfl, hk, hN, hz⟩ := h
  exact ⟨sizeL z k, ⟨Nat.le_trans (sizeL_le z k) hk, size_zero hN.2.2.1 hz, fun j => size_bl hN.2.2.1 hz⟩, fun w' hb => size_num a k c z w' (by omega) (hN.next hb)⟩
theorem rright1_nv {K A : Nat} {v : Value} {w : World} (hK : K < 1000000) (h : NV K A v w) :
    Calls Tryd.prog 71 #[v, .int .i64 1] w fun e w' => ∃ v' b, e = .returned (.tuple #[v', .bool b]) ∧ NV K (A / 2) v' w' ∧ Below w.heap.size w w' := by
  obtain ⟨g, k, cap, z, rfl, hk, hN, hv⟩ := h
  refine (right_p g 0 k cap 0 1 1 z w (by omega) (by omega) (by omega) (by omega) (by decide) (by decide) (by decide) hN).mono ?_
  rintro e w' ⟨g', k', cap', b, rfl, hk', hN', hb⟩
  refine ⟨_, b, rfl, ⟨g', k', cap', _, rfl, by omega, hN', ?_⟩, hb⟩
  rw [← val_more hN'.2.2.2.1 k hk']
  have := shrW_val hN.2.2.1 hN.2.2.2.1 (r := 1) (q := 0) (by omega) k (Nat.le_refl _) hv
  simpa using this
end Go.Proofs.YthcndcanahhbcaaDoor
