/-
  Texts that the proof leans on, joined: Wa, Te, Wm, Wb, Nrd, Rat.
-/
import Derived.Test.YtplocajjfoiklaaGreatDoorR11
import Derived.Test.YtplocajjfoiklaaGreatDoorR35
import Derived.Test.YtplocajjfoiklaaGreatDoorR34
import Derived.Test.YtplocajjfoiklaaGreatDoorR30
import Derived.Deep.Cut
import Derived.Deep.CutRange
import Derived.Test.YtplocajjfoiklaaGreatDoorR26
import Derived.Test.YtplocajjfoiklaaGreatDoorR2
import Derived.Test.YtplocajjfoiklaaGreatDoorR6
import Derived.Test.YtplocajjfoiklaaGreatDoorR4
set_option linter.unusedVariables false
set_option linter.unusedSectionVars false
set_option linter.unusedSimpArgs false
set_option maxHeartbeats 8000000
set_option maxRecDepth 20000
namespace Go.Proofs.YtplocajjfoiklaaGreatDoor
open Go.RowKit
theorem NT.more {K K' V : Nat} {v : Value} {w : World} (h : NT K V v w) (hk : K ≤ K') : NT K' V v w := by
 obtain ⟨g, k, cap, z, h1, h2, h3, h4, h5⟩ := h
 exact ⟨g, k, cap, z, h1, by omega, h3, h4, h5⟩
theorem rtimes_nt {K K' A B : Nat} {v v' : Value} {w : World} (hK : K < 1000000) (hK' : K' < 1000000) (h : NV K A v w) (h' : NV K' B v' w) :
  Calls Tryz.prog 122 #[v, v'] w fun e w' => ∃ r, e = .returned r ∧ NT (K + K' + 1) (A * B) r w' ∧ Below w.heap.size w w' := by
 obtain ⟨g, k, c, z, rfl, hk, hN, hz⟩ := h
 obtain ⟨g2, k2, c2, z2, rfl, hk2, hN2, hz2⟩ := h'
 refine (times_tr g 0 k c g2 0 k2 c2 z z2 w (by omega) (by omega) hN hN2).mono fun e w' ⟨g3, k3, cap3, z3, e1, hk3, hN3, hv3, hB, ht⟩ => ⟨_, e1, ⟨g3, k3, cap3, z3, rfl, by omega, hN3, ?_, ht⟩, hB⟩
 rw [← val_more hN3.2.2.2.1 _ hk3, hv3, hz, hz2]; simp
theorem rleft_nt {K A : Nat} {v : Value} {w : World} (s : Nat) (hK : K < 1000000) (hs : s ≤ 6300000) (h : NV K A v w) :
  Calls Tryz.prog 28 #[v, .int .i64 s] w fun e w' => ∃ r, e = .returned r ∧ NT (K + s / 64 + 1) (A * 2 ^ s) r w' ∧ Below w.heap.size w w' := by
 obtain ⟨g, k, c, z, rfl, hk, hN, hz⟩ := h
 refine (fleft_val g 0 k c s z w (by omega) (by omega) (by omega) hN).mono fun e w' ⟨g3, k3, cap3, z3, e1, hk3, hN3, hv3, hB, hf, ht⟩ => ⟨_, e1, ⟨g3, k3, cap3, z3, rfl, by rw [Int.toNat_natCast] at hk3; omega, hN3, ?_, ht⟩, hB⟩
 rw [hv3, hz, Int.toNat_natCast]; simp
theorem rcmp_nv {K K' A B : Nat} {v v' : Value} {w : World} (hK : K < 1000000) (hK' : K' < 1000000) (h : NV K A v w) (h' : NV K' B v' w) :
  Calls Tryz.prog 154 #[v, v'] w fun e w' => e = .returned (.int .i64 (sgn (A : Int) B)) ∧ w = w' := by
 obtain ⟨g, k, c, z, rfl, hk, hN, hz⟩ := h
 obtain ⟨g2, k2, c2, z2, rfl, hk2, hN2, hz2⟩ := h'
 have := rcmp_any _ _ k c k2 c2 z z2 w (by omega) (by omega) hN hN2
 rw [hz, hz2] at this
 exact this
theorem rlen_nv {K V : Nat} {v : Value} {w : World} (hK : K < 1000000) (h : NV K V v w) :
  Calls Tryz.prog 26 #[v] w fun e w' => e = .returned (.int .i64 (bl V : Int)) ∧ w = w' := by
 obtain ⟨g, k, c, z, rfl, hk, hN, hz⟩ := h
 have := rlen_num _ k c z w (by omega) hN
 rw [len_bl hN.2.2.1 hz] at this
 exact this
theorem rtrim_nt {K V : Nat} {v : Value} {w : World} (hK : K < 1000000) (h : Nt K V v w) :
  Calls Tryz.prog 67 #[v] w fun e w' => ∃ r, e = .returned r ∧ NT K V r w' ∧ Below w.heap.size w w' := by
 obtain ⟨a, k, c, z, rfl, hk, hN, hz⟩ := h
 refine (trim_any a k c z w (by omega) hN).mono fun e w' ⟨g, cap, e1, hN', hB⟩ => ⟨_, e1, ⟨g, _, cap, z, rfl, Nat.le_trans (sizeL_le z k) hk, hN', ?_, sizeL_sizeL _ _⟩, hB⟩
 rw [val_bare, hz]
theorem rright1_nv {K A : Nat} {v : Value} {w : World} (hK : K < 1000000) (h : NV K A v w) :
  Calls Tryz.prog 29 #[v, .int .i64 1] w fun e w' => ∃ v' b, e = .returned (.tuple #[v', .bool b]) ∧ NV K (A / 2) v' w' ∧ Below w.heap.size w w' := by
 obtain ⟨g, k, cap, z, rfl, hk, hN, hv⟩ := h
 refine (right_p g 0 k cap 0 1 1 z w (by omega) (by omega) (by omega) (by omega) (by decide) (by decide) (by decide) hN).mono ?_
 rintro e w' ⟨g', k', cap', b, rfl, hk', hN', hb⟩
 refine ⟨_, b, rfl, ⟨g', k', cap', _, rfl, by omega, hN', ?_⟩, hb⟩
 rw [← val_more hN'.2.2.2.1 k hk']
 have := shrW_val hN.2.2.1 hN.2.2.2.1 (r := 1) (q := 0) (by omega) k (Nat.le_refl _) hv
 simpa using this
def tnB (d : Int) (s : Bool) : Bool := if d = 0 ∨ d = 1 then false else inB d s
theorem nr_tiny {d : Int} {s : Bool} {N D : Nat} {k : Int} (hN : N ≠ 0) (hD : D ≠ 0) (h : ld N D + k ≤ -2) : nrQ N D k = 0 ∧ nrF d s N D k = tnB d s ∧ nrR N D k ≠ 0 := by
 have key : N * 2 * 2 ^ k.toNat < D * 2 ^ (-k).toNat := by
  obtain ⟨K, hK⟩ : ∃ K : Nat, K = bl D + 1 + k.natAbs := ⟨_, rfl⟩
  obtain ⟨K1, hK1⟩ : ∃ K1 : Nat, (K1 : Int) = (K : Int) + k := ⟨((K : Int) + k).toNat, by omega⟩
  have key := cmp_sc (N * 2) D k K (by omega)
  rw [show ((K : Int) + k).toNat = K1 by omega] at key
  have hb := (ld_bd hN hD K1 (by omega)).2
  have hl1 : -(bl D : Int) ≤ ld N D := by
   have := (bl_bd hN).2.2
   unfold ld; dsimp only; split <;> omega
  refine key.2 ?_
  have h2 : D * 2 ^ (((K1 : Int) + ld N D + 1).toNat + 1) ≤ D * 2 ^ K := Nat.mul_le_mul_left _ (Nat.pow_le_pow_right (by decide) (by omega))
  rw [Nat.pow_succ, ← Nat.mul_assoc] at h2
  rw [Nat.mul_right_comm]
  omega
 have hA : N * 2 ^ k.toNat ≠ 0 := Nat.mul_ne_zero hN (Nat.pos_iff_ne_zero.1 (Nat.two_pow_pos _))
 rw [Nat.mul_right_comm] at key
 unfold nrF nrQ nrR
 generalize N * 2 ^ k.toNat = A at *
 generalize D * 2 ^ (-k).toNat = M at *
 have e1 : A / M = 0 := Nat.div_eq_of_lt (by omega)
 have e2 : A % M = A := Nat.mod_eq_of_lt (by omega)
 rw [e1, e2]
 refine ⟨rfl, ?_, hA⟩
 unfold faB tnB
 rw [if_neg hA]
 by_cases h0 : d = 0
 ·rw [if_pos h0, if_pos (Or.inl h0), decide_eq_false (by omega), decide_eq_false (by omega)]; rfl
 ·rw [if_neg h0]
  by_cases h1 : d = 1
  ·rw [if_pos h1, if_pos (Or.inr h1), decide_eq_false (by omega)]
  ·rw [if_neg h1, if_neg (by omega)]
def clZ (x : Int) : Int := min (max x (-200000)) 200000
def sN (N : Nat) (x : Int) : Nat := N * 2 ^ (clZ x).toNat
def sD (D : Nat) (x : Int) : Nat := D * 2 ^ (-(clZ x)).toNat
def lowE (N D : Nat) : Int := if sN N (-((bl N : Int) - bl D)) < sD D (-((bl N : Int) - bl D)) then (bl N : Int) - bl D - 1 else (bl N : Int) - bl D
def whC (d : Int) (s : Bool) (A B : Nat) : Nat := if faB d s (decide (A / B % 2 = 1)) (A % B) B then A / B + 1 else A / B
def dLow (N D : Nat) (x : Int) : Int := lowE (sN N x) (sD D x)
def dQ (n : Int) (N D : Nat) (x : Int) : Int := max (leastN n) (dLow N D x - ((fN n : Int) + 1) + 1)
def dA (n : Int) (N D : Nat) (x : Int) : Nat := sN (sN N x) (-(dQ n N D x))
def dB (n : Int) (N D : Nat) (x : Int) : Nat := sD (sD D x) (-(dQ n N D x))
def dC (n d : Int) (s : Bool) (N D : Nat) (x : Int) : Nat := whC d s (dA n N D x) (dB n N D x)
def dC' (n d : Int) (s : Bool) (N D : Nat) (x : Int) : Nat := if (fN n : Int) + 1 < (bl (dC n d s N D x) : Int) then dC n d s N D x / 2 else dC n d s N D x
def dQ' (n d : Int) (s : Bool) (N D : Nat) (x : Int) : Int := if (fN n : Int) + 1 < (bl (dC n d s N D x) : Int) then dQ n N D x + 1 else dQ n N D x
def doV (n d : Int) (s : Bool) (N D : Nat) (x : Int) : Nat := if N = 0 then pkV n ⟨1, s, false, leastN n, 0⟩ else if mostN n < dQ' n d s N D x then (if inB d s then pkV n ⟨2, s, false, 0, 0⟩ else lgV n s) else pkV n ⟨1, s, false, dQ' n d s N D x, dC' n d s N D x⟩
def doF (n d : Int) (s : Bool) (N D : Nat) (x : Int) : Int := if N = 0 then 0 else if mostN n < dQ' n d s N D x then 10 else if dA n N D x % dB n N D x = 0 then 0 else if dLow N D x < leastN n + ((fN n : Int) + 1) - 1 then 12 else 8
theorem sc_frac (N D a b : Nat) {n : Int} (h : (a : Int) - b = n) : ∃ κ, N * 2 ^ a = N * 2 ^ n.toNat * 2 ^ κ ∧ D * 2 ^ b = D * 2 ^ (-n).toNat * 2 ^ κ := by
 refine ⟨a - n.toNat, ?_, ?_⟩
 ·rw [Nat.mul_assoc, ← Nat.pow_add]; congr 2; omega
 ·rw [Nat.mul_assoc, ← Nat.pow_add]; congr 2; omega
theorem fa_sc (d : Int) (s o : Bool) (R D k : Nat) (hk : 0 < k) : faB d s o (R * k) (D * k) = faB d s o R D := by
 have e1 : R * k = 0 ↔ R = 0 := by rw [Nat.mul_eq_zero]; omega
 have e2 : D * k < R * k + R * k ↔ D < R + R := by rw [← Nat.add_mul]; exact Nat.mul_lt_mul_right hk
 have e3 : R * k + R * k = D * k ↔ R + R = D := by rw [← Nat.add_mul]; exact Nat.mul_right_cancel_iff hk
 have e4 : D * k ≤ R * k + R * k ↔ D ≤ R + R := by rw [← Nat.add_mul]; exact Nat.mul_le_mul_right_iff hk
 unfold faB
 simp only [e1, e2, e3, e4]
theorem wh_sc (d : Int) (s : Bool) (N D a b : Nat) {n : Int} (h : (a : Int) - b = n) : whC d s (N * 2 ^ a) (D * 2 ^ b) = nrC d s N D n ∧ (N * 2 ^ a % (D * 2 ^ b) = 0 ↔ nrR N D n = 0) := by
 obtain ⟨κ, e1, e2⟩ := sc_frac N D a b h
 have hk := Nat.two_pow_pos κ
 rw [e1, e2]
 unfold whC nrC nrF nrQ nrR
 rw [Nat.mul_div_mul_right _ _ hk, Nat.mul_mod_mul_right, fa_sc d s _ _ _ _ hk]
 refine ⟨rfl, ?_⟩
 rw [Nat.mul_eq_zero]; omega
theorem bl_shift {V : Nat} (h : V ≠ 0) (a : Nat) : bl (V * 2 ^ a) = bl V + a := by
 obtain ⟨h1, h2, h3⟩ := bl_bd h
 refine bl_eq ?_ ?_
 ·rw [show bl V + a - 1 = (bl V - 1) + a by omega, Nat.pow_add]
  exact Nat.mul_le_mul_right _ h1
 ·rw [Nat.pow_add]
  exact Nat.mul_lt_mul_of_pos_right h2 (Nat.two_pow_pos _)
theorem ld_shift {N D : Nat} (hN : N ≠ 0) (hD : D ≠ 0) (a b : Nat) : ld (N * 2 ^ a) (D * 2 ^ b) = ld N D + ((a : Int) - b) := by
 unfold ld
 dsimp only
 rw [bl_shift hN, bl_shift hD]
 obtain ⟨p, hp⟩ : ∃ p : Int, (bl N : Int) - bl D = p := ⟨_, rfl⟩
 obtain ⟨p', hp'⟩ : ∃ p' : Int, ((bl N + a : Nat) : Int) - ((bl D + b : Nat) : Int) = p' := ⟨_, rfl⟩
 rw [hp, hp']
 have hpp : p' = p + ((a : Int) - b) := by omega
 obtain ⟨κ, e1, e2⟩ := sc_frac N D (a + (-p').toNat) (b + p'.toNat) (n := -p) (by omega)
 rw [Nat.pow_add, ← Nat.mul_assoc] at e1 e2
 rw [Int.neg_neg] at e2
 rw [e1, e2]
 have hk := Nat.two_pow_pos κ
 by_cases h : N * 2 ^ (-p).toNat < D * 2 ^ p.toNat
 ·rw [if_pos h, if_pos (Nat.mul_lt_mul_of_pos_right h hk)]; omega
 ·rw [if_neg h, if_neg (fun hh => h (Nat.lt_of_mul_lt_mul_right hh))]; omega
theorem low_bd (N D : Nat) : (bl N : Int) - bl D - 1 ≤ lowE N D ∧ lowE N D ≤ (bl N : Int) - bl D := by
 unfold lowE; split <;> omega
theorem low_ld {N D : Nat} (h1 : -200000 ≤ (bl N : Int) - bl D) (h2 : (bl N : Int) - bl D ≤ 200000) : lowE N D = ld N D := by
 unfold lowE ld sN sD
 have e : clZ (-((bl N : Int) - bl D)) = -((bl N : Int) - bl D) := by unfold clZ; omega
 dsimp only
 rw [e, Int.neg_neg]
theorem ld_p (N D : Nat) : (bl N : Int) - bl D - 1 ≤ ld N D ∧ ld N D ≤ (bl N : Int) - bl D := by
 unfold ld; dsimp only; split <;> omega
theorem fld_bd {n : Int} (hb : binN n) : -17000 ≤ leastN n ∧ leastN n ≤ mostN n ∧ mostN n ≤ 17000 ∧ fN n ≤ 240 ∧ 1 ≤ fN n := by
 rcases bin_cases hb with rfl | rfl | rfl | rfl | rfl | rfl <;> simp [leastN, mostN, fN, precN]
theorem sD_ne {N : Nat} (h : N ≠ 0) (x : Int) : sD N x ≠ 0 := Nat.mul_ne_zero h (Nat.pos_iff_ne_zero.1 (Nat.two_pow_pos _))
theorem dlow_ways {N D : Nat} (hN : N ≠ 0) (hD : D ≠ 0) (x : Int) : dLow N D x = ld N D + clZ x ∨ (dLow N D x < -199999 ∧ ld N D + clZ x < -199999) ∨ (199999 ≤ dLow N D x ∧ 199999 ≤ ld N D + clZ x) := by
 have e1 := bl_shift hN (clZ x).toNat
 have e2 := bl_shift hD (-(clZ x)).toNat
 have hp := ld_p N D
 have hl := low_bd (sN N x) (sD D x)
 unfold dLow
 by_cases h : -200000 ≤ (bl (sN N x) : Int) - bl (sD D x) ∧ (bl (sN N x) : Int) - bl (sD D x) ≤ 200000
 ·left
  rw [low_ld h.1 h.2]
  unfold sN sD
  rw [ld_shift hN hD]
  omega
 ·right
  unfold sN sD at h hl ⊢
  rw [e1, e2] at h hl
  omega
theorem d_scale (n d : Int) (s : Bool) (N D : Nat) (x q : Int) (hq : -200000 ≤ q ∧ q ≤ 200000) : whC d s (sN (sN N x) (-q)) (sD (sD D x) (-q)) = nrC d s N D (clZ x - q) ∧ (sN (sN N x) (-q) % sD (sD D x) (-q) = 0 ↔ nrR N D (clZ x - q) = 0) := by
 have e : clZ (-q) = -q := by unfold clZ; omega
 have h1 : sN (sN N x) (-q) = N * 2 ^ ((clZ x).toNat + (-q).toNat) := by unfold sN; rw [e, Nat.mul_assoc, ← Nat.pow_add]
 have h2 : sD (sD D x) (-q) = D * 2 ^ ((-(clZ x)).toNat + (- -q).toNat) := by unfold sD; rw [e, Nat.mul_assoc, ← Nat.pow_add]
 rw [h1, h2]
 exact wh_sc d s N D _ _ (by omega)
theorem do_ways {n : Int} (d : Int) (s : Bool) {N D : Nat} (x : Int) (hb : binN n) (hN : N ≠ 0) (hD : D ≠ 0) (h1 : bl N ≤ 120000) (h2 : bl D ≤ 120000) :
  (mostN n < dQ n N D x ∧ mostN n < rQ n N D x) ∨ (dQ n N D x = rQ n N D x ∧ dC n d s N D x = rC n d s N D x ∧ (dA n N D x % dB n N D x = 0 ↔ nrR N D (rX n N D x - rQ n N D x) = 0) ∧ (dLow N D x < leastN n + ((fN n : Int) + 1) - 1 ↔ ld N D + rX n N D x < (fN n : Int) + leastN n)) := by
 obtain ⟨f1, f2, f3, f4, f5⟩ := fld_bd hb
 have l1 : -120001 ≤ ld N D := by have := ld_p N D; omega
 have l2 : ld N D ≤ 120001 := by have := ld_p N D; omega
 have hw := dlow_ways hN hD x
 have hX : rX n N D x = min (max x (leastN n - 2 - ld N D)) (mostN n + ((fN n : Int) + 1) - ld N D) := rfl
 have hQ : rQ n N D x = max (leastN n) (ld N D + rX n N D x - ((fN n : Int) + 1) + 1) := rfl
 have hcl : clZ x = min (max x (-200000)) 200000 := rfl
 have hdQ : dQ n N D x = max (leastN n) (dLow N D x - ((fN n : Int) + 1) + 1) := rfl
 by_cases hB : mostN n + ((fN n : Int) + 1) - ld N D < x
 ·left
  constructor <;> omega
 ·right
  by_cases hC : x < leastN n - 2 - ld N D
  ·have eq1 : dQ n N D x = leastN n := by omega
   have eq2 : rQ n N D x = leastN n := by omega
   have hs := d_scale n d s N D x (dQ n N D x) (by omega)
   obtain ⟨t1, t2, t3⟩ := nr_tiny (d := d) (s := s) hN hD (k := clZ x - dQ n N D x) (by omega)
   obtain ⟨u1, u2, u3⟩ := nr_tiny (d := d) (s := s) hN hD (k := rX n N D x - rQ n N D x) (by omega)
   refine ⟨by omega, ?_, ?_, by omega⟩
   ·refine hs.1.trans ?_
    unfold rC nrC
    rw [t1, t2, u1, u2]
   ·refine hs.2.trans ?_
    exact ⟨fun h => absurd h t3, fun h => absurd h u3⟩
  ·have eX : rX n N D x = x := by omega
   have ecl : clZ x = x := by omega
   have eL : dLow N D x = ld N D + x := by omega
   have eq1 : dQ n N D x = rQ n N D x := by omega
   have hs := d_scale n d s N D x (dQ n N D x) (by omega)
   refine ⟨eq1, ?_, ?_, by omega⟩
   ·refine hs.1.trans ?_
    unfold rC
    rw [ecl, eX, eq1]
   ·refine hs.2.trans ?_
    rw [ecl, eX, eq1]
theorem do_eq {n : Int} (d : Int) (s : Bool) (N : Nat) {D : Nat} (x : Int) (hb : binN n) (hD : D ≠ 0) (h1 : bl N ≤ 120000) (h2 : bl D ≤ 120000) : doV n d s N D x = rdV n d s N D x ∧ doF n d s N D x = rdF n d s N D x := by
 by_cases hN : N = 0
 ·unfold doV rdV doF rdF; rw [if_pos hN, if_pos hN, if_pos hN, if_pos hN]; exact ⟨rfl, rfl⟩
 rcases do_ways d s x hb hN hD h1 h2 with ⟨ha, hr⟩ | ⟨hq, hc, hx, hl⟩
 ·have e1 : mostN n < dQ' n d s N D x := by unfold dQ'; split <;> omega
  have e2 : mostN n < rQ' n d s N D x := by unfold rQ'; split <;> omega
  unfold doV rdV doF rdF
  rw [if_neg hN, if_neg hN, if_neg hN, if_neg hN, if_pos e1, if_pos e1, if_pos e2, if_pos e2]
  exact ⟨rfl, rfl⟩
 ·have e1 : dQ' n d s N D x = rQ' n d s N D x := by unfold dQ' rQ'; rw [hq, hc]
  have e2 : dC' n d s N D x = rC' n d s N D x := by unfold dC' rC'; rw [hc]
  unfold doV rdV doF rdF
  rw [if_neg hN, if_neg hN, if_neg hN, if_neg hN, e1, e2]
  by_cases ho : mostN n < rQ' n d s N D x
  ·simp only [if_pos ho]; exact ⟨trivial, trivial⟩
  ·simp only [if_neg ho]
   refine ⟨trivial, ?_⟩
   simp only [hx, hl, decide_eq_true_eq]
theorem do_lt {n : Int} (d : Int) (s : Bool) {N D : Nat} (x : Int) (hb : binN n) (hN : N ≠ 0) (hD : D ≠ 0) (h1 : bl N ≤ 120000) (h2 : bl D ≤ 120000) (ho : ¬ mostN n < dQ' n d s N D x) : dC' n d s N D x < 2 ^ 256 := by
 rcases do_ways d s x hb hN hD h1 h2 with ⟨ha, hr⟩ | ⟨hq, hc, hx, hl⟩
 ·exact absurd (show mostN n < dQ' n d s N D x by unfold dQ'; split <;> omega) ho
 ·have e1 : dQ' n d s N D x = rQ' n d s N D x := by unfold dQ' rQ'; rw [hq, hc]
  have e2 : dC' n d s N D x = rC' n d s N D x := by unfold dC' rC'; rw [hc]
  rw [e1] at ho
  rw [e2]
  have hisd := r_isD hb hN hD ho
  obtain ⟨f1, f2, f3, f4, f5⟩ := fld_bd hb
  have h3 : rC' n d s N D x < 2 ^ (fN n + 1) := by
   rcases hisd with ⟨_, _, h, _⟩ | ⟨h, _⟩ | ⟨h, _⟩
   ·exact h
   ·have h' : (1 : Int) = 2 := h
    omega
   ·have h' : (1 : Int) = 3 := h
    omega
  exact Nat.lt_of_lt_of_le h3 (Nat.pow_le_pow_right (by decide) (by omega))
section
theorem rdir_any (d : Int) (w : World) : Calls Tryz.prog 15 #[.int .i64 d] w fun e w' => e = .returned (.bool (decide (knB d))) ∧ w = w' := by
 by_cases h0 : 0 ≤ d
 ·by_cases h4 : d ≤ 4
  ·have e : decide (knB d) = true := by unfold knB; simp [h0, h4]
   rw [e]
   go_enter Tryz.func15, Tryz.ntmps15
   go_wp2
   go_ret
   exact ⟨by simp [h0, h4], rfl⟩
  ·have e : decide (knB d) = false := by unfold knB; simp [h0, h4]
   rw [e]
   go_enter Tryz.func15, Tryz.ntmps15
   go_wp2
   go_ret
   exact ⟨by simp [h0, h4], rfl⟩
 ·have e : decide (knB d) = false := by unfold knB; simp [h0]
  rw [e]
  go_enter Tryz.func15, Tryz.ntmps15
  go_wp2
  go_ret
  exact ⟨by simp [h0], rfl⟩
theorem rfar_kn (d : Int) (s : Bool) (w : World) (hk : knB d) : Calls Tryz.prog 107 #[.int .i64 d, .bool s] w fun e w' => e = .returned (.bool (inB d s)) ∧ w = w' := by
 have hd : d = 0 ∨ d = 1 ∨ d = 2 ∨ d = 3 ∨ d = 4 := by unfold knB at hk; omega
 rcases hd with rfl | rfl | rfl | rfl | rfl <;>
 ·go_enter Tryz.func107, Tryz.ntmps107
  go_wp2
  go_ret
  exact ⟨by simp [inB], rfl⟩
theorem nv_uno {W : World} {g V : Nat} {vi : Int} (hg : g = W.heap.size) (hv : vi = (V : Int)) (hb : V < 18446744073709551616) : NV 1 V (.slice (some ⟨g, 0, none⟩) 1 1) (W.alloc (.cells #[.int .u64 vi] 22)) := by
 subst hg hv
 exact ⟨_, 1, 1, oneW V, rfl, Nat.le_refl _, num_one W V (by omega), val_one1 V⟩
theorem rpower_nt (n : Nat) (hn : n ≤ 200000) (w : World) : Calls Tryz.prog 155 #[.int .u64 2, .int .i64 (n : Int)] w fun e w' => ∃ r, e = .returned r ∧ NT 3128 (2 ^ n) r w' ∧ Below w.heap.size w w' := by
 have c84 := rleft_nt (w := w.alloc (.cells #[.int .u64 1] 22)) n (K := 1) (A := 1) (by decide) (by omega) (nv_uno rfl rfl (by decide))
 rw [Nat.one_mul] at c84
 have hb0 := below1 w (.cells #[.int .u64 1] 22)
 go_enter Tryz.func155, Tryz.ntmps155
 go_wp2_with (go_at_call 28; refine c84.mono ?_; rintro e w1 ⟨r, rfl, hr, hb1⟩)
 go_ret
 exact ⟨r, rfl, hr.more (by omega), hb0.trans (hb1.mono hb0.size)⟩
section
variable (x : Int) (vn vd : Value) (A B KK : Nat) (w : World)
theorem rscale_pos (h : 0 ≤ min (max x (-200000)) 200000)
  (c98 : Calls Tryz.prog 155 #[.int .u64 2, .int .i64 (min (max x (-200000)) 200000)] w fun e w' => ∃ p, e = .returned p ∧ Below w.heap.size w w' ∧ Calls Tryz.prog 122 #[vn, p] w' fun e w'' => ∃ r, e = .returned r ∧ NT KK A r w'' ∧ Below w'.heap.size w' w'') :
  Calls Tryz.prog 99 #[vn, vd, .int .u64 2, .int .i64 x] w fun e w' => ∃ r, e = .returned (.tuple #[r, vd]) ∧ NT KK A r w' ∧ Below w.heap.size w w' := by
 have hb1 : min (max x (-200000)) 200000 ≤ 200000 := by omega
 go_enter Tryz.func99, Tryz.ntmps99
 go_wp2_with (first
  | (go_at_call 155; refine c98.mono ?_; rintro e w1 ⟨p, rfl, hb1, c17⟩)
  | (go_at_call 122; refine c17.mono ?_; rintro e w2 ⟨r, rfl, hr, hb2⟩))
 exact bodyPost_ret (v := .tuple #[r, vd]) (by simp only [results, Tryz.results99]; go_simp) rfl ⟨_, rfl, hr, hb1.trans (hb2.mono hb1.size)⟩
theorem rscale_neg (m : Int) (hm : m = -(min (max x (-200000)) 200000)) (h : ¬ 0 ≤ min (max x (-200000)) 200000)
  (c98 : Calls Tryz.prog 155 #[.int .u64 2, .int .i64 m] w fun e w' => ∃ p, e = .returned p ∧ Below w.heap.size w w' ∧ Calls Tryz.prog 122 #[vd, p] w' fun e w'' => ∃ r, e = .returned r ∧ NT KK A r w'' ∧ Below w'.heap.size w' w'') :
  Calls Tryz.prog 99 #[vn, vd, .int .u64 2, .int .i64 x] w fun e w' => ∃ r, e = .returned (.tuple #[vn, r]) ∧ NT KK A r w' ∧ Below w.heap.size w w' := by
 have hb1 : -200000 ≤ min (max x (-200000)) 200000 := by omega
 subst hm
 go_enter Tryz.func99, Tryz.ntmps99
 go_wp2_with (first
  | (go_at_call 155; refine c98.mono ?_; rintro e w1 ⟨p, rfl, hb1, c17⟩)
  | (go_at_call 122; refine c17.mono ?_; rintro e w2 ⟨r, rfl, hr, hb2⟩))
 exact bodyPost_ret (v := .tuple #[vn, r]) (by simp only [results, Tryz.results99]; go_simp) rfl ⟨_, rfl, hr, hb1.trans (hb2.mono hb1.size)⟩
end
theorem rscale_nt {K N D : Nat} {vn vd : Value} {w : World} (x : Int) (hK : K ≤ 12000) (h : NT K N vn w) (h' : NT K D vd w) :
  Calls Tryz.prog 99 #[vn, vd, .int .u64 2, .int .i64 x] w fun e w' => ∃ a b, e = .returned (.tuple #[a, b]) ∧ NT (K + 3130) (sN N x) a w' ∧ NT (K + 3130) (sD D x) b w' ∧ Below w.heap.size w w' := by
 have hc : clZ x = min (max x (-200000)) 200000 := rfl
 by_cases hp : 0 ≤ min (max x (-200000)) 200000
 ·have c98 := rpower_nt (clZ x).toNat (by omega) w
  rw [show ((clZ x).toNat : Int) = min (max x (-200000)) 200000 by omega] at c98
  have e0 : sD D x = D := by unfold sD; rw [show (-(clZ x)).toNat = 0 by omega, Nat.pow_zero, Nat.mul_one]
  rw [e0]
  refine (rscale_pos x vn vd (sN N x) (K + 3130) w hp (c98.mono fun e w' ⟨p, e1, e2, e3⟩ => ⟨p, e1, e3, (rtimes_nt (by omega) (by decide) (h.next e3).nv e2.nv).mono fun e w'' ⟨r, f1, f2, f3⟩ => ⟨r, f1, f2.more (by omega), f3⟩⟩)).mono fun e w' ⟨r, e1, e2, e3⟩ => ⟨_, _, e1, e2, (h'.next e3).more (by omega), e3⟩
 ·have c98 := rpower_nt (-(clZ x)).toNat (by omega) w
  rw [show ((-(clZ x)).toNat : Int) = -(clZ x) by omega] at c98
  have e0 : sN N x = N := by unfold sN; rw [show (clZ x).toNat = 0 by omega, Nat.pow_zero, Nat.mul_one]
  rw [e0]
  refine (rscale_neg x vn vd (sD D x) (K + 3130) w (-(clZ x)) (by omega) hp (c98.mono fun e w' ⟨p, e1, e2, e3⟩ => ⟨p, e1, e3, (rtimes_nt (by omega) (by decide) (h'.next e3).nv e2.nv).mono fun e w'' ⟨r, f1, f2, f3⟩ => ⟨r, f1, f2.more (by omega), f3⟩⟩)).mono fun e w' ⟨r, e1, e2, e3⟩ => ⟨_, _, e1, (h.next e3).more (by omega), e2, e3⟩
section
variable (vn vd : Value) (LN LD s : Int) (w : World) (hLN : 0 ≤ LN ∧ LN ≤ 2000000) (hLD : 0 ≤ LD ∧ LD ≤ 2000000)
 (c70 : Calls Tryz.prog 26 #[vn] w fun e w' => e = .returned (.int .i64 LN) ∧ w = w')
 (c70d : Calls Tryz.prog 26 #[vd] w fun e w' => e = .returned (.int .i64 LD) ∧ w = w')
 (c67 : ∀ n : Int, n = -(LN - LD) → Calls Tryz.prog 99 #[vn, vd, .int .u64 2, .int .i64 n] w fun e w' => ∃ va vb, e = .returned (.tuple #[va, vb]) ∧ (Calls Tryz.prog 154 #[va, vb] w' fun e w'' => e = .returned (.int .i64 s) ∧ w' = w'') ∧ Below w.heap.size w w')
include hLN hLD c70 c70d c67
theorem rexp_l (h : s < 0) : Calls Tryz.prog 104 #[vn, vd] w fun e w' => e = .returned (.int .i64 (LN - LD - 1)) ∧ Below w.heap.size w w' := by
 go_enter Tryz.func104, Tryz.ntmps104
 go_wp2_with (first
  | (go_at_call_of 26 vn; refine c70.mono ?_; rintro e w1 ⟨rfl, rfl⟩)
  | (go_at_call_of 26 vd; refine c70d.mono ?_; rintro e w1 ⟨rfl, rfl⟩)
  | (go_at_call 99; refine (c67 _ (by omega)).mono ?_; rintro e w2 ⟨va, vb, rfl, c21, hb2⟩)
  | (go_at_call 154; refine c21.mono ?_; rintro e w3 ⟨rfl, rfl⟩))
 go_ret
 exact ⟨rfl, hb2⟩
theorem rexp_g (h : ¬ s < 0) : Calls Tryz.prog 104 #[vn, vd] w fun e w' => e = .returned (.int .i64 (LN - LD)) ∧ Below w.heap.size w w' := by
 go_enter Tryz.func104, Tryz.ntmps104
 go_wp2_with (first
  | (go_at_call_of 26 vn; refine c70.mono ?_; rintro e w1 ⟨rfl, rfl⟩)
  | (go_at_call_of 26 vd; refine c70d.mono ?_; rintro e w1 ⟨rfl, rfl⟩)
  | (go_at_call 99; refine (c67 _ (by omega)).mono ?_; rintro e w2 ⟨va, vb, rfl, c21, hb2⟩)
  | (go_at_call 154; refine c21.mono ?_; rintro e w3 ⟨rfl, rfl⟩))
 go_ret
 exact ⟨rfl, hb2⟩
end
theorem rexp_nt {K N D : Nat} {vn vd : Value} {w : World} (hK : K ≤ 12000) (h : NT K N vn w) (h' : NT K D vd w) (hbn : bl N ≤ 1000000) (hbd : bl D ≤ 1000000) :
  Calls Tryz.prog 104 #[vn, vd] w fun e w' => e = .returned (.int .i64 (lowE N D)) ∧ Below w.heap.size w w' := by
 have c67 : ∀ n : Int, n = -((bl N : Int) - bl D) → Calls Tryz.prog 99 #[vn, vd, .int .u64 2, .int .i64 n] w fun e w' => ∃ va vb, e = .returned (.tuple #[va, vb]) ∧ (Calls Tryz.prog 154 #[va, vb] w' fun e w'' => e = .returned (.int .i64 (sgn ((sN N (-((bl N : Int) - bl D)) : Nat) : Int) ((sD D (-((bl N : Int) - bl D)) : Nat) : Int))) ∧ w' = w'') ∧ Below w.heap.size w w' := by
  rintro n rfl
  exact (rscale_nt _ hK h h').mono fun e w' ⟨a, b, e1, e2, e3, e4⟩ => ⟨a, b, e1, rcmp_nv (by omega) (by omega) e2.nv e3.nv, e4⟩
 have c70 := rlen_nv (by omega) h.nv
 have c70d := rlen_nv (by omega) h'.nv
 unfold lowE
 rcases sgn_ways ((sN N (-((bl N : Int) - bl D)) : Nat) : Int) ((sD D (-((bl N : Int) - bl D)) : Nat) : Int) with ⟨a, e⟩ | ⟨a, e⟩ | ⟨a, e⟩
 ·rw [if_pos (by exact Int.ofNat_lt.1 a)]
  exact rexp_l vn vd _ _ _ w (by omega) (by omega) c70 c70d c67 (by omega)
 ·rw [if_neg (fun hh => by have := Int.ofNat_lt.2 hh; omega)]
  exact rexp_g vn vd _ _ _ w (by omega) (by omega) c70 c70d c67 (by omega)
 ·rw [if_neg (fun hh => by have := Int.ofNat_lt.2 hh; omega)]
  exact rexp_g vn vd _ _ _ w (by omega) (by omega) c70 c70d c67 (by omega)
theorem over_one (ga gb s c c' : Nat) (x y : Nat → Int) (w : World) (hs : s < 20001) (h : Num w (some ⟨ga, 0, none⟩) s c x) (h' : Num w (some ⟨gb, 0, none⟩) 1 c' y) (hys : sizeL y 1 = 1) :
  Calls Tryz.prog 156 #[.slice (some ⟨ga, 0, none⟩) s c, .slice (some ⟨gb, 0, none⟩) 1 c'] w (OvOut (val x s) (val y 1) w) := by
 have hy := h'.2.2.1
 have c31 := size_num _ 1 c' y w (by omega) h'
 rw [hys] at c31
 have hy0 : y 0 ≠ 0 := by have := sizeL_top (x := y) 1 (by omega); rw [hys] at this; exact this
 have hyb := hy 0
 have ev : val y 1 = y 0 := by simp [val]
 have c107 := small_any (some ⟨ga, 0, none⟩) s c x (y 0) w (by omega) h (by omega)
 have hc : gb < w.heap.size ∧ w.cell? ⟨gb, 0, none⟩ = some (.int .u64 (y 0)) := by
  rcases h'.2.2.2.2 with ⟨h, _⟩ | ⟨b', off', h, hbs, hc⟩
  ·cases h
  ·cases h; exact ⟨hbs, hc 0 (by omega)⟩
 obtain ⟨hgb, hcc⟩ := hc
 rw [ev]
 clear h h'
 go_enter Tryz.func156, Tryz.ntmps156
 go_wp2_with (first | (go_at_call 64; refine c31.mono ?_; rintro e w' ⟨rfl, rfl⟩) | (go_at_call 123; refine c107.mono ?_; rintro e w1 ⟨g, k, cap, z, g', k', cap', z', rfl, hk, hk', hN, hN', hv, hv', hB, ht⟩))
 go_ret2
 exact ⟨g, k, cap, z, g', k', cap', z', rfl, by omega, by omega, hN, hN', hv, hv', hB, ht⟩
theorem rover_nt {K N D : Nat} {vn vd : Value} {w : World} (hK : K ≤ 20000) (h : NT K N vn w) (h' : NT K D vd w) (hD : D ≠ 0) :
  Calls Tryz.prog 156 #[vn, vd] w fun e w' => ∃ q r, e = .returned (.tuple #[q, r]) ∧ NV 41000 (N / D) q w' ∧ NT 41000 (N % D) r w' ∧ Below w.heap.size w w' := by
 have hk0 := h'.zero
 obtain ⟨ga, s, c, x, rfl, hs, hN, hx, hxs⟩ := h
 obtain ⟨gb, t, c', y, rfl, ht, hN', hy, hys⟩ := h'
 have fin : ∀ e w', OvOut (val x s) (val y t) w e w' → ∃ q r, e = .returned (.tuple #[q, r]) ∧ NV 41000 (N / D) q w' ∧ NT 41000 (N % D) r w' ∧ Below w.heap.size w w' := by
  rintro e w' ⟨g, k, cap, z, g', k', cap', z', e1, hk, hk', hA, hB, hv, hv', hb, htr⟩
  refine ⟨_, _, e1, ⟨g, k, cap, z, rfl, hk, hA, ?_⟩, ⟨g', k', cap', z', rfl, hk', hB, ?_, htr⟩, hb⟩
  ·rw [hv, hx, hy]; rfl
  ·rw [hv', hx, hy]; rfl
 have ht0 : t ≠ 0 := by
  intro e; subst e
  have : val y 0 = 0 := rfl
  omega
 by_cases ht1 : t = 1
 ·subst ht1
  exact (over_one ga gb s c c' x y w (by omega) hN hN' hys).mono fin
 ·exact (over_any ga gb s c t c' x y w (by omega) (by omega) (by omega) hN hN' hxs hys).mono fin
end
theorem digB_of {s : ByteArray} : ∀ (n : Nat), (∀ k, k < n → 48 ≤ sb s k ∧ sb s k ≤ 57) → digB s n = true
 | 0, _ => rfl
 | n + 1, h => by
  unfold digB
  rw [digB_of n fun k hk => h k (by omega)]
  simp; exact h n (by omega)
theorem numV_app {s u : ByteArray} (p : Nat) : ∀ L, (∀ i, i < L → sb u i = sb s (p + i)) → numV s (p + L) = numV s p * 10 ^ L + numV u L
 | 0, _ => by simp [numV]
 | L + 1, h => by
  have e := numV_app p L fun i hi => h i (by omega)
  rw [← Nat.add_assoc]
  simp only [numV]
  rw [e, h L (by omega), Int.pow_succ]
  grind
theorem ext_size {u : ByteArray} {a b : Nat} (hb : b ≤ u.size) : (u.extract a b).size = b - a := by
 rw [ByteArray.size_extract]; omega
theorem ext_sb {u : ByteArray} {a b i : Nat} (hb : b ≤ u.size) (hi : a + i < b) : sb (u.extract a b) i = sb u (a + i) := by
 unfold sb
 rw [dif_pos (show i < (u.extract a b).size by rw [ext_size hb]; omega), dif_pos (show a + i < u.size by omega)]
 simp [ByteArray.getElem_extract]
theorem nread_ok (s : ByteArray) (w : World) (hd : isDigB s = true) (hl : s.size ≤ 12000) :
  Calls Tryz.prog 191 #[.string s] w fun e w' => ∃ o k cap z, e = .returned (.tuple #[.slice o k cap, .int .i64 0]) ∧ k ≤ 12000 ∧ Num w' o k cap z ∧ val z k = numV s s.size ∧ sizeL z k = k ∧ Below w.heap.size w w' := by
 have ha := allDigits_any s w (by omega)
 rw [hd] at ha
 have hl' : (s.size : Int) ≤ 12000 := by omega
 have hdig : ∀ k, k < s.size → 48 ≤ sb s k ∧ sb s k ≤ 57 := by
  unfold isDigB at hd; simp at hd; exact digB_at s.size hd.1
 have HDG : Hid (∀ k, k < s.size → 48 ≤ sb s k ∧ sb s k ≤ 57) := hdig
 clear hd hdig
 go_enter Tryz.func191, Tryz.ntmps191
 go_wp2_with (go_at_call 222; refine ha.mono ?_; rintro e w' ⟨rfl, rfl⟩)
 clear ha
 go_loopw [0, 4, 5] (fun t0 t4 u5 wr => ∃ (p n c : Nat) (u : ByteArray) (ao : Option Addr) (z : Nat → Int), p ≤ s.size ∧ t0 = .string u ∧ t4 = .slice ao n c ∧ n ≤ p ∧ u.size = s.size - p ∧ (∀ i, i < u.size → sb u i = sb s (p + i)) ∧ Row w.heap.size ao n c z wr ∧ val z n = numV s p ∧ Below w.heap.size w wr) (fun t0 _ _ _ => match t0 with | .string u => u.size | _ => 0)
 case atStart => exact ⟨0, 0, 0, s, none, fun _ => 0, Nat.zero_le _, rfl, rfl, Nat.le_refl _, rfl, fun i _ => by rw [Nat.zero_add], ⟨World.ownsRow_nil _ _ _ _, fun _ => (by decide : (0 : Int) ≤ 0 ∧ (0 : Int) ≤ 18446744073709551615), fun _ _ => rfl, rfl, Nat.le_refl _⟩, rfl, Below.refl _ _⟩
 case round =>
  obtain ⟨p, n, c, u, ao, z, hp, rfl, rfl, hnp, hus, hub, hR, hv, hB⟩ := hrel
  by_cases h0 : u.size = 0
  ·have e1 : p = s.size := by omega
   have hu0 : (u.size : Int) = 0 := by omega
   have HN : Hid (Num wr ao n c z) := num_of_owns' hR.2.1 hR.2.2.1 hR.1
   have HV : Hid (val z n = numV s s.size) := by show _ = _; rw [hv, e1]
   have HT : Hid (sizeL z n = n) := hR.2.2.2.1
   have HB : Hid (Below w.heap.size w wr) := hB
   clear hR hv hB hub
   go_wp2
   go_ret2
   exact ⟨ao, n, c, z, rfl, by omega, HN.out, HV.out, HT.out, HB.out⟩
  ·have hu0 : (0 : Int) < u.size := by omega
   obtain ⟨L, hL⟩ : ∃ L : Nat, (if u.size ≤ 19 then u.size else 19) = L := ⟨_, rfl⟩
   have hL1 : 0 < L ∧ L ≤ 19 ∧ L ≤ u.size := by split at hL <;> omega
   have hmin : min (u.size : Int) 19 = L := by split at hL <;> omega
   have hLu : (L : Int) ≤ u.size := by omega
   have es : (u.extract 0 L).size = L := by rw [ext_size hL1.2.2]; omega
   have es2 : (u.extract L u.size).size = u.size - L := ext_size (Nat.le_refl _)
   have eb : ∀ i, i < L → sb (u.extract 0 L) i = sb s (p + i) := fun i hi => by rw [ext_sb hL1.2.2 (by omega), Nat.zero_add, hub i (by omega)]
   have eb2 : Hid (∀ i, i < (u.extract L u.size).size → sb (u.extract L u.size) i = sb s (p + L + i)) := fun i hi => by
    rw [es2] at hi
    rw [ext_sb (Nat.le_refl _) (by omega), hub (L + i) (by omega), Nat.add_assoc]
   have hap := appendPart_any w.heap.size ao n c z (u.extract 0 L) wr (by omega) (by omega) (by rw [es]; exact digB_of L fun k hk => by rw [eb k hk]; exact HDG.out (p + k) (by omega)) hR
   rw [es] at hap
   have HV : Hid (val z n * 10 ^ L + numV (u.extract 0 L) L = numV s (p + L)) := by show _ = _; rw [numV_app p L eb, hv]
   have HB : Hid (Below w.heap.size w wr) := hB
   have HE2 : Hid ((u.extract L u.size).size = s.size - (p + L)) := by show _ = _; rw [es2]; omega
   have HE3 : Hid ((u.extract L u.size).size < u.size) := by show _ < _; rw [es2]; omega
   have hpl : p + L ≤ s.size := by omega
   have hnk : n + 1 ≤ p + L := by omega
   clear hR hv hB hub es es2 eb hL hus
   go_wp2_with (go_at_call 223; refine hap.mono ?_; rintro e w1 ⟨o1, k1, p1, z1, rfl, hk1, hR1, hv1, hB1⟩; clear hap)
   go_roundw
   case rel => exact ⟨p + L, k1, p1, _, o1, z1, hpl, rfl, rfl, by omega, HE2.out, eb2.out, hR1, by rw [hv1, HV.out], HB.out.trans hB1⟩
   case measure => exact HE3.out
theorem radd_tr (a a' : Option Addr) (n c n' c' : Nat) (x y : Nat → Int) (w : World) (hn : n < 4294967290) (hn' : n' < 4294967290) (h : Num w a n c x) (h' : Num w a' n' c' y) :
  Calls Tryz.prog 44 #[.slice a n c, .slice a' n' c'] w fun e w' => ∃ g k cap, e = .returned (.slice (some ⟨g, 0, none⟩) k cap) ∧ k ≤ max n n' + 1 ∧ Num w' (some ⟨g, 0, none⟩) k cap (sumW x y) ∧ Below w.heap.size w w' ∧ sizeL (sumW x y) k = k := by
 have hx := h.2.2.1
 have hy := h'.2.2.1
 have zx := h.2.2.2.1
 have zy := h'.2.2.2.1
 obtain ⟨M, hM⟩ : ∃ M, max n n' + 1 = M := ⟨_, rfl⟩
 have hMi : max (n : Int) n' + 1 = (M : Int) := by omega
 have hMb : M < 4294967292 := by omega
 have hmk := fun w => make_any (max (n : Int) n' + 1) M hMi (by omega) w
 have hfin : ∀ (ss : Array Value), ss.size = M → (∀ j h, ss[j]'h = Value.int .u64 (sumW x y j)) → Num (w.alloc (.cells ss 22)) (some ⟨w.heap.size, 0, none⟩) M M (sumW x y) := fun ss h1 h2 => num_of_block (by omega) (sumW_words x y) (fun i hi => sumW_zero (n := max n n') hx hy (fun i hi => zx i (by omega)) (fun i hi => zy i (by omega)) i (by omega)) h1 (fun j hj => by rw [h2 j hj])
 have hw1 := fun (i : Nat) (ss : Array Value) => word_any a n c i x (w.alloc (.cells ss 22)) (h.next (below1 w _))
 have hw2 := fun (i : Nat) (ss : Array Value) => word_any a' n' c' i y (w.alloc (.cells ss 22)) (h'.next (below1 w _))
 have HM : Hid (max n n' + 1 = M) := hM
 have HZ : Hid ((arrOf (fun _ => 0) M).size = M ∧ ∀ j h, (arrOf (fun _ => 0) M)[j]'h = Value.int .u64 0) := ⟨arrOf_size _ _, fun j h => arrOf_get _ _ _ _⟩
 clear h h' zx zy hM hMi
 generalize arrOf (fun _ => 0) M = zz at *
 go_enter Tryz.func44, Tryz.ntmps44
 go_wp2
 go_loopw [6, 7, 17, 20] (fun c u7 i u20 wr => ∃ (k : Nat) (ss : Array Value), k ≤ M ∧ i = .int .i64 k ∧ c = .int .u64 (carryW x y k) ∧ ss.size = M ∧ (∀ j h, ss[j]'h = Value.int .u64 (if j < k then sumW x y j else 0)) ∧ wr = w.alloc (.cells ss 22)) (fun _ _ i _ _ => M - (intOf i).toNat)
 case atStart => exact ⟨0, zz, Nat.zero_le _, rfl, rfl, HZ.out.1, fun j h => by rw [HZ.out.2 j h]; simp, rfl⟩
 case round =>
  obtain ⟨k, ss, hk, rfl, rfl, hsz, hss, rfl⟩ := hrel
  have hcar := carryW_01 hx hy k
  by_cases h8 : k < M
  ·have h8i : (k : Int) < M := by omega
   have h8s : k < ss.size := by omega
   have bx := hx k
   have b_y := hy k
   have hsk : ss[k]? = some (.int .u64 0) := by rw [Array.getElem?_eq_getElem h8s, hss k h8s, if_neg (by omega)]
   have hadd := fun w => add64 (x k) (y k) (carryW x y k) bx.1 b_y.1 hcar.1 hcar.2 w
   have hwa := hw1 k ss
   have hwb := hw2 k ss
   have HR : Hid (∀ (i : Nat) (h : i < (ss.setIfInBounds k (.int .u64 (sumW x y k))).size), (ss.setIfInBounds k (.int .u64 (sumW x y k)))[i]'h = Value.int .u64 (if i < k + 1 then sumW x y i else 0)) := set_next hss
   clear hss hw1 hw2 hfin hmk hx hy
   go_wp2_with (first | (go_at_call_of 68 (Value.slice a n c); refine hwa.mono ?_; rintro e w' ⟨rfl, rfl⟩) | (go_at_call_of 68 (Value.slice a' n' c'); refine hwb.mono ?_; rintro e w' ⟨rfl, rfl⟩))
   go_roundw
   case rel => exact ⟨k + 1, ss.setIfInBounds k (.int .u64 (sumW x y k)), by omega, by go_num, rfl, by simp [hsz], HR.out, rfl⟩
   case measure => simp [intOf]; omega
  ·obtain rfl : k = M := by omega
   have hss' : ∀ j h, ss[j]'h = Value.int .u64 (sumW x y j) := by
    intro j h; rw [hss j h, if_pos (by omega)]
   have hT := trim_any _ _ _ _ _ (by omega) (hfin ss hsz hss')
   have hle := sizeL_le (sumW x y) k
   clear hss hss' hw1 hw2 hfin hmk hx hy
   go_wp2_with (go_at_call 67; refine hT.mono ?_; rintro e w1 ⟨g, cap, rfl, hN, hB⟩)
   go_ret
   exact ⟨g, _, cap, rfl, Nat.le_trans hle (Nat.le_of_eq HM.out.symm), hN, (below1 w _).trans (hB.mono (by simp)), sizeL_sizeL _ _⟩
theorem radd_vt (a a' : Option Addr) (n c n' c' : Nat) (x y : Nat → Int) (w : World) (hn : n < 4000000000) (hn' : n' < 4000000000) (h : Num w a n c x) (h' : Num w a' n' c' y) :
  Calls Tryz.prog 44 #[.slice a n c, .slice a' n' c'] w fun e w' => ∃ g k cap z, e = .returned (.slice (some ⟨g, 0, none⟩) k cap) ∧ k ≤ max n n' + 1 ∧ Num w' (some ⟨g, 0, none⟩) k cap z ∧ val z k = val x n + val y n' ∧ Below w.heap.size w w' ∧ sizeL z k = k := by
 refine (radd_tr a a' n c n' c' x y w (by omega) (by omega) h h').mono fun e w' ⟨g, k, cap, e1, hk, hN, hB, ht⟩ => ⟨g, k, cap, _, e1, hk, hN, ?_, hB, ht⟩
 have e := sum_val (x := x) (y := y) (max n n' + 1)
 rw [sum_end h.2.2.1 h'.2.2.1 h.2.2.2.1 h'.2.2.2.1 (by omega) (by omega), val_more h.2.2.2.1 _ (by omega), val_more h'.2.2.2.1 _ (by omega), val_more hN.2.2.2.1 _ hk] at e
 omega
end Go.Proofs.YtplocajjfoiklaaGreatDoor
