/-
  Texts that the proof leans on, joined: Wm, Xm, Ca, Rl, Ri, Ord.
-/
import Derived.Test.YtkefmapcaggefaaGreatDoorJ22
import Derived.Test.YtkefmapcaggefaaGreatDoorJ15
import Derived.Test.YtkefmapcaggefaaGreatDoorJ18
import Derived.Deep.RegionWith
import Derived.Test.YtkefmapcaggefaaGreatDoorJ1
import Derived.StillTail
import Derived.Below
import Derived.WalkKit
set_option linter.unusedVariables false
set_option linter.unusedSectionVars false
set_option linter.unusedSimpArgs false
set_option maxRecDepth 20000
namespace Go.Proofs.YtkefmapcaggefaaGreatDoor
open Go.RowKit

/-- the exponent as the document takes it -/
def clZ (x : Int) : Int := min (max x (-200000)) 200000
def sN (N : Nat) (x : Int) : Nat := N * 2 ^ (clZ x).toNat
def sD (D : Nat) (x : Int) : Nat := D * 2 ^ (-(clZ x)).toNat
def lowE (N D : Nat) : Int := if sN N (-((bl N : Int) - bl D)) < sD D (-((bl N : Int) - bl D)) then (bl N : Int) - bl D - 1 else (bl N : Int) - bl D
def whC (d : Int) (s : Bool) (A B : Nat) : Nat := if faB d s (decide (A / B % 2 = 1)) (A % B) B then A / B + 1 else A / B
def dLow (N D : Nat) (x : Int) : Int := lowE (sN N x) (sD D x)
def dQ (n : Int) (N D : Nat) (x : Int) : Int := max (leastN n) (dLow N D x - ((fN n : Int) + 1) + 1)
def dA (n : Int) (N D : Nat) (x : Int) : Nat := sN (sN N x) (-(dQ n N D x))
def dB (n : Int) (N D : Nat) (x : Int) : Nat := sD (sD D x) (-(dQ n N D x))
def dC (n d : Int) (s : Bool) (N D : Nat) (x : Int) : Nat := whC d s (dA n N D x) (dB n N D x)
def dC' (n d : Int) (s : Bool) (N D : Nat) (x : Int) : Nat := if (fN n : Int) + 1 < (bl (dC n d s N D x) : Int) then dC n d s N D x / 2 else dC n d s N D x
def dQ' (n d : Int) (s : Bool) (N D : Nat) (x : Int) : Int := if (fN n : Int) + 1 < (bl (dC n d s N D x) : Int) then dQ n N D x + 1 else dQ n N D x
def doV (n d : Int) (s : Bool) (N D : Nat) (x : Int) : Nat := if N = 0 then pkV n ⟨1, s, false, leastN n, 0⟩ else if mostN n < dQ' n d s N D x then (if inB d s then pkV n ⟨2, s, false, 0, 0⟩ else lgV n s) else pkV n ⟨1, s, false, dQ' n d s N D x, dC' n d s N D x⟩
def doF (n d : Int) (s : Bool) (N D : Nat) (x : Int) : Int := if N = 0 then 0 else if mostN n < dQ' n d s N D x then 10 else if dA n N D x % dB n N D x = 0 then 0 else if dLow N D x < leastN n + ((fN n : Int) + 1) - 1 then 12 else 8

theorem sc_frac (N D a b : Nat) {n : Int} (h : (a : Int) - b = n) : ∃ κ, N * 2 ^ a = N * 2 ^ n.toNat * 2 ^ κ ∧ D * 2 ^ b = D * 2 ^ (-n).toNat * 2 ^ κ := by
  refine ⟨a - n.toNat, ?_, ?_⟩
  · rw [Nat.mul_assoc, ← Nat.pow_add]; congr 2; omega
  · rw [Nat.mul_assoc, ← Nat.pow_add]; congr 2; omega
theorem fa_sc (d : Int) (s o : Bool) (R D k : Nat) (hk : 0 < k) : faB d s o (R * k) (D * k) = faB d s o R D := by
  have e1 : R * k = 0 ↔ R = 0 := by rw [Nat.mul_eq_zero]; omega
  have e2 : D * k < R * k + R * k ↔ D < R + R := by rw [← Nat.add_mul]; exact Nat.mul_lt_mul_right hk
  have e3 : R * k + R * k = D * k ↔ R + R = D := by rw [← Nat.add_mul]; exact Nat.mul_right_cancel_iff hk
  have e4 : D * k ≤ R * k + R * k ↔ D ≤ R + R := by rw [← Nat.add_mul]; exact Nat.mul_le_mul_right_iff hk
  unfold faB
  simp only [e1, e2, e3, e4]
theorem wh_sc (d : Int) (s : Bool) (N D a b : Nat) {n : Int} (h : (a : Int) - b = n) : whC d s (N * 2 ^ a) (D * 2 ^ b) = nrC d s N D n ∧ (N * 2 ^ a % (D * 2 ^ b) = 0 ↔ nrR N D n = 0) := by
  obtain ⟨κ, e1, e2⟩ := sc_frac N D a b h
  have hk := Nat.two_pow_pos κ
  rw [e1, e2]
  unfold whC nrC nrF nrQ nrR
  rw [Nat.mul_div_mul_right _ _ hk, Nat.mul_mod_mul_right, fa_sc d s _ _ _ _ hk]
  refine ⟨rfl, ?_⟩
  rw [Nat.mul_eq_zero]; omega
theorem bl_shift {V : Nat} (h : V ≠ 0) (a : Nat) : bl (V * 2 ^ a) = bl V + a := by
  obtain ⟨h1, h2, h3⟩ := bl_bd h
  refine bl_eq ?_ ?_
  · rw [show bl V + a - 1 = (bl V - 1) + a by omega, Nat.pow_add]
    exact Nat.mul_le_mul_right _ h1
  · rw [Nat.pow_add]
    exact Nat.mul_lt_mul_of_pos_right h2 (Nat.two_pow_pos _)
theorem ld_shift {N D : Nat} (hN : N ≠ 0) (hD : D ≠ 0) (a b : Nat) : ld (N * 2 ^ a) (D * 2 ^ b) = ld N D + ((a : Int) - b) := by
  unfold ld
  dsimp only
  rw [bl_shift hN, bl_shift hD]
  obtain ⟨p, hp⟩ : ∃ p : Int, (bl N : Int) - bl D = p := ⟨_, rfl⟩
  obtain ⟨p', hp'⟩ : ∃ p' : Int, ((bl N + a : Nat) : Int) - ((bl D + b : Nat) : Int) = p' := ⟨_, rfl⟩
  rw [hp, hp']
  have hpp : p' = p + ((a : Int) - b) := by omega
  obtain ⟨κ, e1, e2⟩ := sc_frac N D (a + (-p').toNat) (b + p'.toNat) (n := -p) (by omega)
  rw [Nat.pow_add, ← Nat.mul_assoc] at e1 e2
  rw [Int.neg_neg] at e2
  rw [e1, e2]
  have hk := Nat.two_pow_pos κ
  by_cases h : N * 2 ^ (-p).toNat < D * 2 ^ p.toNat
  · rw [if_pos h, if_pos (Nat.mul_lt_mul_of_pos_right h hk)]; omega
  · rw [if_neg h, if_neg (fun hh => h (Nat.lt_of_mul_lt_mul_right hh))]; omega
theorem low_bd (N D : Nat) : (bl N : Int) - bl D - 1 ≤ lowE N D ∧ lowE N D ≤ (bl N : Int) - bl D := by
  unfold lowE; split <;> omega
theorem low_ld {N D : Nat} (h1 : -200000 ≤ (bl N : Int) - bl D) (h2 : (bl N : Int) - bl D ≤ 200000) : lowE N D = ld N D := by
  unfold lowE ld sN sD
  have e : clZ (-((bl N : Int) - bl D)) = -((bl N : Int) - bl D) := by unfold clZ; omega
  dsimp only
  rw [e, Int.neg_neg]
theorem ld_p (N D : Nat) : (bl N : Int) - bl D - 1 ≤ ld N D ∧ ld N D ≤ (bl N : Int) - bl D := by
  unfold ld; dsimp only; split <;> omega
theorem fld_bd {n : Int} (hb : binN n) : -17000 ≤ leastN n ∧ leastN n ≤ mostN n ∧ mostN n ≤ 17000 ∧ fN n ≤ 240 ∧ 1 ≤ fN n := by
  rcases bin_cases hb with rfl | rfl | rfl | rfl | rfl | rfl <;> simp [leastN, mostN, fN, precN]
theorem sD_ne {N : Nat} (h : N ≠ 0) (x : Int) : sD N x ≠ 0 := Nat.mul_ne_zero h (Nat.pos_iff_ne_zero.1 (Nat.two_pow_pos _))
/-- what the document's low is: the fraction's place, or beyond all -/
theorem dlow_ways {N D : Nat} (hN : N ≠ 0) (hD : D ≠ 0) (x : Int) : dLow N D x = ld N D + clZ x ∨ (dLow N D x < -199999 ∧ ld N D + clZ x < -199999) ∨ (199999 ≤ dLow N D x ∧ 199999 ≤ ld N D + clZ x) := by
  have e1 := bl_shift hN (clZ x).toNat
  have e2 := bl_shift hD (-(clZ x)).toNat
  have hp := ld_p N D
  have hl := low_bd (sN N x) (sD D x)
  unfold dLow
  by_cases h : -200000 ≤ (bl (sN N x) : Int) - bl (sD D x) ∧ (bl (sN N x) : Int) - bl (sD D x) ≤ 200000
  · left
    rw [low_ld h.1 h.2]
    unfold sN sD
    rw [ld_shift hN hD]
    omega
  · right
    unfold sN sD at h hl ⊢
    rw [e1, e2] at h hl
    omega
/-- the fraction as the document scales it -/
theorem d_scale (n d : Int) (s : Bool) (N D : Nat) (x q : Int) (hq : -200000 ≤ q ∧ q ≤ 200000) : whC d s (sN (sN N x) (-q)) (sD (sD D x) (-q)) = nrC d s N D (clZ x - q) ∧ (sN (sN N x) (-q) % sD (sD D x) (-q) = 0 ↔ nrR N D (clZ x - q) = 0) := by
  have e : clZ (-q) = -q := by unfold clZ; omega
  have h1 : sN (sN N x) (-q) = N * 2 ^ ((clZ x).toNat + (-q).toNat) := by unfold sN; rw [e, Nat.mul_assoc, ← Nat.pow_add]
  have h2 : sD (sD D x) (-q) = D * 2 ^ ((-(clZ x)).toNat + (- -q).toNat) := by unfold sD; rw [e, Nat.mul_assoc, ← Nat.pow_add]
  rw [h1, h2]
  exact wh_sc d s N D _ _ (by omega)
theorem do_ways {n : Int} (d : Int) (s : Bool) {N D : Nat} (x : Int) (hb : binN n) (hN : N ≠ 0) (hD : D ≠ 0) (h1 : bl N ≤ 120000) (h2 : bl D ≤ 120000) :
    (mostN n < dQ n N D x ∧ mostN n < rQ n N D x) ∨ (dQ n N D x = rQ n N D x ∧ dC n d s N D x = rC n d s N D x ∧ (dA n N D x % dB n N D x = 0 ↔ nrR N D (rX n N D x - rQ n N D x) = 0) ∧ (dLow N D x < leastN n + ((fN n : Int) + 1) - 1 ↔ ld N D + rX n N D x < (fN n : Int) + leastN n)) := by
  obtain ⟨f1, f2, f3, f4, f5⟩ := fld_bd hb
  have l1 : -120001 ≤ ld N D := by have := ld_p N D; omega
  have l2 : ld N D ≤ 120001 := by have := ld_p N D; omega
  have hw := dlow_ways hN hD x
  have hX : rX n N D x = min (max x (leastN n - 2 - ld N D)) (mostN n + ((fN n : Int) + 1) - ld N D) := rfl
  have hQ : rQ n N D x = max (leastN n) (ld N D + rX n N D x - ((fN n : Int) + 1) + 1) := rfl
  have hcl : clZ x = min (max x (-200000)) 200000 := rfl
  have hdQ : dQ n N D x = max (leastN n) (dLow N D x - ((fN n : Int) + 1) + 1) := rfl
  by_cases hB : mostN n + ((fN n : Int) + 1) - ld N D < x
  · left
    constructor <;> omega
  · right
    by_cases hC : x < leastN n - 2 - ld N D
    · have eq1 : dQ n N D x = leastN n := by omega
      have eq2 : rQ n N D x = leastN n := by omega
      have hs := d_scale n d s N D x (dQ n N D x) (by omega)
      obtain ⟨t1, t2, t3⟩ := nr_tiny (d := d) (s := s) hN hD (k := clZ x - dQ n N D x) (by omega)
      obtain ⟨u1, u2, u3⟩ := nr_tiny (d := d) (s := s) hN hD (k := rX n N D x - rQ n N D x) (by omega)
      refine ⟨by omega, ?_, ?_, by omega⟩
      · refine hs.1.trans ?_
        unfold rC nrC
        rw [t1, t2, u1, u2]
      · refine hs.2.trans ?_
        exact ⟨fun h => absurd h t3, fun h => absurd h u3⟩
    · have eX : rX n N D x = x := by omega
      have ecl : clZ x = x := by omega
      have eL : dLow N D x = ld N D + x := by omega
      have eq1 : dQ n N D x = rQ n N D x := by omega
      have hs := d_scale n d s N D x (dQ n N D x) (by omega)
      refine ⟨eq1, ?_, ?_, by omega⟩
      · refine hs.1.trans ?_
        unfold rC
        rw [ecl, eX, eq1]
      · refine hs.2.trans ?_
        rw [ecl, eX, eq1]
theorem do_eq {n : Int} (d : Int) (s : Bool) (N : Nat) {D : Nat} (x : Int) (hb : binN n) (hD : D ≠ 0) (h1 : bl N ≤ 120000) (h2 : bl D ≤ 120000) : doV n d s N D x = rdV n d s N D x ∧ doF n d s N D x = rdF n d s N D x := by
  by_cases hN : N = 0
  · unfold doV rdV doF rdF; rw [if_pos hN, if_pos hN, if_pos hN, if_pos hN]; exact ⟨rfl, rfl⟩
  rcases do_ways d s x hb hN hD h1 h2 with ⟨ha, hr⟩ | ⟨hq, hc, hx, hl⟩
  · have e1 : mostN n < dQ' n d s N D x := by unfold dQ'; split <;> omega
    have e2 : mostN n < rQ' n d s N D x := by unfold rQ'; split <;> omega
    unfold doV rdV doF rdF
    rw [if_neg hN, if_neg hN, if_neg hN, if_neg hN, if_pos e1, if_pos e1, if_pos e2, if_pos e2]
    exact ⟨rfl, rfl⟩
  · have e1 : dQ' n d s N D x = rQ' n d s N D x := by unfold dQ' rQ'; rw [hq, hc]
    have e2 : dC' n d s N D x = rC' n d s N D x := by unfold dC' rC'; rw [hc]
    unfold doV rdV doF rdF
    rw [if_neg hN, if_neg hN, if_neg hN, if_neg hN, e1, e2]
    by_cases ho : mostN n < rQ' n d s N D x
    · simp only [if_pos ho]; exact ⟨trivial, trivial⟩
    · simp only [if_neg ho]
      refine ⟨trivial, ?_⟩
      simp only [hx, hl, decide_eq_true_eq]
/-- what is packed has no more than 256 bits -/
theorem do_lt {n : Int} (d : Int) (s : Bool) {N D : Nat} (x : Int) (hb : binN n) (hN : N ≠ 0) (hD : D ≠ 0) (h1 : bl N ≤ 120000) (h2 : bl D ≤ 120000) (ho : ¬ mostN n < dQ' n d s N D x) : dC' n d s N D x < 2 ^ 256 := by
  rcases do_ways d s x hb hN hD h1 h2 with ⟨ha, hr⟩ | ⟨hq, hc, hx, hl⟩
  · exact absurd (show mostN n < dQ' n d s N D x by unfold dQ'; split <;> omega) ho
  · have e1 : dQ' n d s N D x = rQ' n d s N D x := by unfold dQ' rQ'; rw [hq, hc]
    have e2 : dC' n d s N D x = rC' n d s N D x := by unfold dC' rC'; rw [hc]
    rw [e1] at ho
    rw [e2]
    have hisd := r_isD hb hN hD ho
    obtain ⟨f1, f2, f3, f4, f5⟩ := fld_bd hb
    have h3 : rC' n d s N D x < 2 ^ (fN n + 1) := by
      rcases hisd with ⟨_, _, h, _⟩ | ⟨h, _⟩ | ⟨h, _⟩
      · exact h
      · have h' : (1 : Int) = 2 := h
        omega
      · have h' : (1 : Int) = 3 := h
        omega
    exact Nat.lt_of_lt_of_le h3 (Nat.pow_le_pow_right (by decide) (by omega))
end Go.Proofs.YtkefmapcaggefaaGreatDoor

namespace Go.Proofs.YtkefmapcaggefaaGreatDoor
open Go.RowKit

theorem nr_shift (d : Int) (s : Bool) (N D a b : Nat) (k : Int) : nrC d s (N * 2 ^ a) (D * 2 ^ b) k = nrC d s N D (k + ((a : Int) - b)) ∧ (nrR (N * 2 ^ a) (D * 2 ^ b) k = 0 ↔ nrR N D (k + ((a : Int) - b)) = 0) := by
  have h := wh_sc d s N D (a + k.toNat) (b + (-k).toNat) (n := k + ((a : Int) - b)) (by omega)
  rw [Nat.pow_add, Nat.pow_add, ← Nat.mul_assoc, ← Nat.mul_assoc] at h
  exact h
theorem rX_shift {n : Int} {N D : Nat} (hN : N ≠ 0) (hD : D ≠ 0) (a b : Nat) (x : Int) : rX n (N * 2 ^ a) (D * 2 ^ b) x = rX n N D (x + ((a : Int) - b)) - ((a : Int) - b) := by
  unfold rX wiZ
  rw [ld_shift hN hD]
  omega
theorem rd_shift (n d : Int) (s : Bool) (N : Nat) {D : Nat} (hD : D ≠ 0) (a b : Nat) (x : Int) : rdV n d s (N * 2 ^ a) (D * 2 ^ b) x = rdV n d s N D (x + ((a : Int) - b)) ∧ rdF n d s (N * 2 ^ a) (D * 2 ^ b) x = rdF n d s N D (x + ((a : Int) - b)) := by
  by_cases hN : N = 0
  · subst hN
    rw [Nat.zero_mul]
    unfold rdV rdF
    rw [if_pos rfl, if_pos rfl, if_pos rfl, if_pos rfl]
    exact ⟨rfl, rfl⟩
  have hN' : N * 2 ^ a ≠ 0 := Nat.mul_ne_zero hN (Nat.pos_iff_ne_zero.1 (Nat.two_pow_pos _))
  have eX := rX_shift (n := n) hN hD a b x
  have eL := ld_shift hN hD a b
  have eQ : rQ n (N * 2 ^ a) (D * 2 ^ b) x = rQ n N D (x + ((a : Int) - b)) := by
    unfold rQ; rw [eX, eL]; congr 1; omega
  have hk := nr_shift d s N D a b (rX n (N * 2 ^ a) (D * 2 ^ b) x - rQ n (N * 2 ^ a) (D * 2 ^ b) x)
  rw [show rX n (N * 2 ^ a) (D * 2 ^ b) x - rQ n (N * 2 ^ a) (D * 2 ^ b) x + ((a : Int) - b) = rX n N D (x + ((a : Int) - b)) - rQ n N D (x + ((a : Int) - b)) by rw [eX, eQ]; omega] at hk
  have eC : rC n d s (N * 2 ^ a) (D * 2 ^ b) x = rC n d s N D (x + ((a : Int) - b)) := hk.1
  have eC' : rC' n d s (N * 2 ^ a) (D * 2 ^ b) x = rC' n d s N D (x + ((a : Int) - b)) := by unfold rC'; rw [eC]
  have eQ' : rQ' n d s (N * 2 ^ a) (D * 2 ^ b) x = rQ' n d s N D (x + ((a : Int) - b)) := by unfold rQ'; rw [eC, eQ]
  have eS : ld (N * 2 ^ a) (D * 2 ^ b) + rX n (N * 2 ^ a) (D * 2 ^ b) x = ld N D + rX n N D (x + ((a : Int) - b)) := by rw [eX, eL]; omega
  unfold rdV rdF
  rw [if_neg hN, if_neg hN, if_neg hN', if_neg hN', eC', eQ', eS]
  refine ⟨rfl, ?_⟩
  simp only [hk.2]
end Go.Proofs.YtkefmapcaggefaaGreatDoor

namespace Go.Proofs.YtkefmapcaggefaaGreatDoor
open Go.RowKit

/-- the pattern and the flags of a datum that is converted -/
def cvV (n d : Int) (D : Dat) : Nat := if D.c = 2 then pkV n ⟨2, D.s, false, 0, 0⟩ else if D.c = 3 then pkV n ⟨3, D.s, false, 0, if D.k < 2 ^ (fN n - 1) then D.k else 0⟩ else rdV n d D.s D.k 1 D.x
def cvF (n d : Int) (D : Dat) : Int := if D.c = 2 then 0 else if D.c = 3 then (if D.g then 1 else 0) else rdF n d D.s D.k 1 D.x
end Go.Proofs.YtkefmapcaggefaaGreatDoor

namespace Go.Proofs.YtkefmapcaggefaaGreatDoor
open Go.RowKit

set_option maxHeartbeats 1000000 in
theorem lay_any (B A at_ K : Nat) (v : Value) (w : World) (hB : B < 2 ^ 256) (hK : K < 900) (ha : at_ ≤ 600) (h : NV K A v w) :
    Calls Tryz.prog 69 #[A4 B, v, .int .i64 at_] w fun e w' => e = .returned (A4 (B + A * 2 ^ at_)) ∧ Below w.heap.size w w' := by
  have c52 : ∀ W, Below w.heap.size w W → Calls Tryz.prog 64 #[v, .int .i64 at_] W fun e w' => ∃ v', e = .returned v' ∧ NV (K + 11) (A * 2 ^ at_) v' w' ∧ Below W.heap.size W w' := fun W hW => rleft_nv at_ (by omega) ha (h.next hW)
  clear h
  go_enter Tryz.func69, Tryz.ntmps69
  go_wp2
  go_region_with (first
    | (go_at_call 64; refine (c52 _ bgo).mono ?_; rintro e w1 ⟨v1, rfl, hl, hb1⟩; have hbx := box_nv (w0 := w) (B := B) (t := 24) hB (bnext bgo hb1); obtain ⟨hc1, hf1⟩ := bcell hb1; have hz1_0 : w.heap.size < w1.heap.size := lt_below hb1 ltg; have hl1_0 := Nat.le_of_lt hz1_0; have hz1_1 : w.heap.size + 1 < w1.heap.size := lt_below hb1 ltg; have hl1_1 := Nat.le_of_lt hz1_1; have hA1 := bnext (w0 := w) bgo hb1; have hs1 := hA1.size; clear hb1)
    | (go_at_call 35; refine (radd_nv (by decide) (by omega) hbx hl).mono ?_; rintro e w2 ⟨v2, rfl, hs, hb2⟩; obtain ⟨hc2, hf2⟩ := bcell hb2; have hz2_0 : w.heap.size < w2.heap.size := lt_below hb2 ltg; have hl2_0 := Nat.le_of_lt hz2_0; have hz2_1 : w.heap.size + 1 < w2.heap.size := lt_below hb2 ltg; have hl2_1 := Nat.le_of_lt hz2_1; have hA2 := bnext (w0 := w) bgo hb2; have hs2 := hA2.size; clear hb2)
    | (go_at_call 34; refine (bits_nv hs).mono ?_; rintro e w3 ⟨rfl, hb3⟩; obtain ⟨hc3, hf3⟩ := bcell hb3; have hz3_0 : w.heap.size < w3.heap.size := lt_below hb3 ltg; have hl3_0 := Nat.le_of_lt hz3_0; have hz3_1 : w.heap.size + 1 < w3.heap.size := lt_below hb3 ltg; have hl3_1 := Nat.le_of_lt hz3_1; have hA3 := bnext (w0 := w) bgo hb3; have hs3 := hA3.size; clear hb3))
  have hsm := cell_set_map
  go_wp2
  exact bodyPost_ret (v := A4 (B + A * 2 ^ at_)) (by simp only [results, Tryz.results69]; go_simp) rfl ⟨rfl, bgo⟩
set_option maxHeartbeats 400000 in
theorem rbinary_any (n : Int) (w : World) : Calls Tryz.prog 14 #[.int .i64 n] w fun e w' => e = .returned (.bool (decide (binN n))) ∧ w' = w := by
  by_cases h1 : 1 ≤ n
  · by_cases h2 : n ≤ 6
    · rw [decide_eq_true (show binN n from ⟨h1, h2⟩)]
      go_enter Tryz.func14, Tryz.ntmps14
      go_wp2
      go_ret
      exact ⟨rfl, rfl⟩
    · rw [decide_eq_false (show ¬ binN n from fun h => h2 h.2)]
      go_enter Tryz.func14, Tryz.ntmps14
      go_wp2
      go_ret
      exact ⟨rfl, rfl⟩
  · rw [decide_eq_false (show ¬ binN n from fun h => h1 h.1)]
    go_enter Tryz.func14, Tryz.ntmps14
    go_wp2
    go_ret
    exact ⟨rfl, rfl⟩
theorem rfits4 (n : Int) (B : Nat) (hB : B < 2 ^ 256) (w : World) :
    Calls Tryz.prog 30 #[.int .i64 n, A4 B] w fun x w' => x = .returned (.bool (decide (okN n ∧ B < 2 ^ (widthN n).toNat))) ∧ Below w.heap.size w w' := by
  refine (rfits_any n (W4 B) (W4_words B) _ (A4_get B) rfl w).mono ?_
  rintro x w' ⟨rfl, hb⟩
  refine ⟨?_, hb⟩
  have hwd := (fields_bounds n).2.1
  have e : (fitsP n (W4 B)) ↔ (okN n ∧ B < 2 ^ (widthN n).toNat) := by
    unfold fitsP
    rw [lenL_low]
    have := len4_le (k := (widthN n).toNat) hB
    rw [show (((widthN n).toNat : Nat) : Int) = widthN n by omega] at this
    rw [this]
  rw [decide_eq_decide.2 e]
set_option maxHeartbeats 400000 in
theorem rgood_any (n : Int) (B : Nat) (hB : B < 2 ^ 256) (w : World) :
    Calls Tryz.prog 13 #[.int .i64 n, A4 B] w fun x w' => x = .returned (.bool (decide (goodN n B))) ∧ Below w.heap.size w w' := by
  have c35 := fun w => rbinary_any n w
  have c50 := fun w => rfits4 n B hB w
  by_cases hb : binN n
  · have hF := bin_fields hb
    rw [decide_eq_true hb] at c35
    have e : (okN n ∧ B < 2 ^ (widthN n).toNat) ↔ goodN n B := by
      rw [hF.2.2.2.2.1, Int.toNat_natCast]
      exact ⟨fun h => ⟨hb, h.2⟩, fun h => ⟨hF.1, h.2⟩⟩
    rw [decide_eq_decide.2 e] at c50
    generalize decide (goodN n B) = D at *
    clear hF e hb hB
    go_enter Tryz.func13, Tryz.ntmps13
    go_wp2_with (first
      | (go_at_call 14; refine (c35 _).mono ?_; rintro e w1 ⟨rfl, rfl⟩)
      | (go_at_call 30; refine (c50 _).mono ?_; rintro e w2 ⟨rfl, hb2⟩))
    go_ret
    exact ⟨rfl, bnext bgo hb2⟩
  · rw [decide_eq_false hb] at c35
    rw [decide_eq_false (show ¬ goodN n B from fun h => hb h.1)]
    clear hb hB c50
    go_enter Tryz.func13, Tryz.ntmps13
    go_wp2_with (go_at_call 14; refine (c35 _).mono ?_; rintro e w1 ⟨rfl, rfl⟩)
    go_ret
    exact ⟨rfl, bgo⟩
end Go.Proofs.YtkefmapcaggefaaGreatDoor

namespace Go.Proofs.YtkefmapcaggefaaGreatDoor
open Go.RowKit
attribute [local irreducible] W4

abbrev IV (n : Int) (nm : ByteArray) (wd : Int) (f e : Nat) (l m : Int) : Value := .agg #[.int .i64 n, .string nm, .int .i64 2, .int .i64 wd, .int .i64 ((f : Int) + 1), .int .i64 e, .int .i64 l, .int .i64 m, .int .i64 ((f : Int) - 1), .bool false]
theorem dat_num {w0 w : World} {c : Int} {s g : Bool} {x : Int} {k : Nat} (hb : Below (w0.alloc (.cells #[.int .i64 c, .bool s, .bool g, .int .i64 x, .int .u64 (W4 k 0), .int .u64 (W4 k 1), .int .u64 (W4 k 2), .int .u64 (W4 k 3)] 31)).heap.size (w0.alloc (.cells #[.int .i64 c, .bool s, .bool g, .int .i64 x, .int .u64 (W4 k 0), .int .u64 (W4 k 1), .int .u64 (W4 k 2), .int .u64 (W4 k 3)] 31)) w) :
    Num w (some ⟨w0.heap.size, 4, none⟩) 4 4 (lowW (W4 k) 4) := by
  refine ⟨Nat.le_refl _, by unfold maxLen; omega, lowW_words (W4_words k) 4, fun i hi => lowW_ge hi, Or.inr ⟨_, _, rfl, lt_below hb (by simp), fun i hi => ?_⟩⟩
  rw [lowW_lt hi, (hb.cell (p := ⟨w0.heap.size, 4 + i, none⟩) (by simp)), World.cell?_alloc_new]
  have : i = 0 ∨ i = 1 ∨ i = 2 ∨ i = 3 := by omega
  rcases this with rfl | rfl | rfl | rfl <;> rfl
section
variable (n : Int) (nm : ByteArray) (wd : Int) (f e : Nat) (l m : Int) (c x : Int) (s g : Bool) (k : Nat) (L : Int) (w : World) (hf : 2 ≤ f ∧ f ≤ 240)
  (c38 : ∀ W, Num W (some ⟨w.heap.size + 1, 4, none⟩) 4 4 (lowW (W4 k) 4) → Calls Tryz.prog 61 #[.slice (some ⟨w.heap.size + 1, 4, none⟩) 4 4] W fun e w' => e = .returned (.int .i64 L) ∧ W = w')
include hf c38
set_option maxHeartbeats 1000000 in
theorem is1_g  : Calls Tryz.prog 68 #[IV n nm wd f e l m, DV 1 s true x k] w fun r w' => r = .returned (.bool false) ∧ Below w.heap.size w w' := by
  have hN := dat_num (w0 := w.alloc (.cells #[.int .i64 n, .string nm, .int .i64 2, .int .i64 wd, .int .i64 ((f : Int) + 1), .int .i64 e, .int .i64 l, .int .i64 m, .int .i64 ((f : Int) - 1), .bool false] 64)) (c := 1) (s := s) (g := true) (x := x) (k := k) (Below.refl _ _)
  rw [World.size_alloc] at hN
  have cl := c38 _ hN
  clear hN c38
  go_enter Tryz.func68, Tryz.ntmps68
  go_wp2_with (go_at_call 61; refine cl.mono ?_; rintro e w1 ⟨rfl, rfl⟩)
  go_ret
  exact ⟨by first | rfl | simp [*], bgo⟩
set_option maxHeartbeats 1000000 in
theorem is1_l (h1 : ¬ L ≤ (f : Int) + 1) : Calls Tryz.prog 68 #[IV n nm wd f e l m, DV 1 s false x k] w fun r w' => r = .returned (.bool false) ∧ Below w.heap.size w w' := by
  have hN := dat_num (w0 := w.alloc (.cells #[.int .i64 n, .string nm, .int .i64 2, .int .i64 wd, .int .i64 ((f : Int) + 1), .int .i64 e, .int .i64 l, .int .i64 m, .int .i64 ((f : Int) - 1), .bool false] 64)) (c := 1) (s := s) (g := false) (x := x) (k := k) (Below.refl _ _)
  rw [World.size_alloc] at hN
  have cl := c38 _ hN
  clear hN c38
  go_enter Tryz.func68, Tryz.ntmps68
  go_wp2_with (go_at_call 61; refine cl.mono ?_; rintro e w1 ⟨rfl, rfl⟩)
  go_ret
  exact ⟨by first | rfl | simp [*], bgo⟩
set_option maxHeartbeats 1000000 in
theorem is1_x (h1 : L ≤ (f : Int) + 1) (h2 : ¬ l ≤ x) : Calls Tryz.prog 68 #[IV n nm wd f e l m, DV 1 s false x k] w fun r w' => r = .returned (.bool false) ∧ Below w.heap.size w w' := by
  have hN := dat_num (w0 := w.alloc (.cells #[.int .i64 n, .string nm, .int .i64 2, .int .i64 wd, .int .i64 ((f : Int) + 1), .int .i64 e, .int .i64 l, .int .i64 m, .int .i64 ((f : Int) - 1), .bool false] 64)) (c := 1) (s := s) (g := false) (x := x) (k := k) (Below.refl _ _)
  rw [World.size_alloc] at hN
  have cl := c38 _ hN
  clear hN c38
  go_enter Tryz.func68, Tryz.ntmps68
  go_wp2_with (go_at_call 61; refine cl.mono ?_; rintro e w1 ⟨rfl, rfl⟩)
  go_ret
  exact ⟨by first | rfl | simp [*], bgo⟩
set_option maxHeartbeats 1000000 in
theorem is1_m (h1 : L ≤ (f : Int) + 1) (h2 : l ≤ x) (h3 : ¬ x ≤ m) : Calls Tryz.prog 68 #[IV n nm wd f e l m, DV 1 s false x k] w fun r w' => r = .returned (.bool false) ∧ Below w.heap.size w w' := by
  have hN := dat_num (w0 := w.alloc (.cells #[.int .i64 n, .string nm, .int .i64 2, .int .i64 wd, .int .i64 ((f : Int) + 1), .int .i64 e, .int .i64 l, .int .i64 m, .int .i64 ((f : Int) - 1), .bool false] 64)) (c := 1) (s := s) (g := false) (x := x) (k := k) (Below.refl _ _)
  rw [World.size_alloc] at hN
  have cl := c38 _ hN
  clear hN c38
  go_enter Tryz.func68, Tryz.ntmps68
  go_wp2_with (go_at_call 61; refine cl.mono ?_; rintro e w1 ⟨rfl, rfl⟩)
  go_ret
  exact ⟨by first | rfl | simp [*], bgo⟩
set_option maxHeartbeats 1000000 in
theorem is1_n (h1 : L ≤ (f : Int) + 1) (h2 : l ≤ x) (h3 : x ≤ m) (h4 : (L == (f : Int) + 1) = false) (h5 : (x == l) = false) : Calls Tryz.prog 68 #[IV n nm wd f e l m, DV 1 s false x k] w fun r w' => r = .returned (.bool false) ∧ Below w.heap.size w w' := by
  have hN := dat_num (w0 := w.alloc (.cells #[.int .i64 n, .string nm, .int .i64 2, .int .i64 wd, .int .i64 ((f : Int) + 1), .int .i64 e, .int .i64 l, .int .i64 m, .int .i64 ((f : Int) - 1), .bool false] 64)) (c := 1) (s := s) (g := false) (x := x) (k := k) (Below.refl _ _)
  rw [World.size_alloc] at hN
  have cl := c38 _ hN
  clear hN c38
  go_enter Tryz.func68, Tryz.ntmps68
  go_wp2_with (go_at_call 61; refine cl.mono ?_; rintro e w1 ⟨rfl, rfl⟩)
  go_ret
  exact ⟨by first | rfl | simp [*], bgo⟩
set_option maxHeartbeats 1000000 in
theorem is1_a (h1 : L ≤ (f : Int) + 1) (h2 : l ≤ x) (h3 : x ≤ m) (h4 : (L == (f : Int) + 1) = true) : Calls Tryz.prog 68 #[IV n nm wd f e l m, DV 1 s false x k] w fun r w' => r = .returned (.bool true) ∧ Below w.heap.size w w' := by
  have hN := dat_num (w0 := w.alloc (.cells #[.int .i64 n, .string nm, .int .i64 2, .int .i64 wd, .int .i64 ((f : Int) + 1), .int .i64 e, .int .i64 l, .int .i64 m, .int .i64 ((f : Int) - 1), .bool false] 64)) (c := 1) (s := s) (g := false) (x := x) (k := k) (Below.refl _ _)
  rw [World.size_alloc] at hN
  have cl := c38 _ hN
  clear hN c38
  go_enter Tryz.func68, Tryz.ntmps68
  go_wp2_with (go_at_call 61; refine cl.mono ?_; rintro e w1 ⟨rfl, rfl⟩)
  go_ret
  exact ⟨by first | rfl | simp [*], bgo⟩
set_option maxHeartbeats 1000000 in
theorem is1_b (h1 : L ≤ (f : Int) + 1) (h2 : l ≤ x) (h3 : x ≤ m) (h4 : (L == (f : Int) + 1) = false) (h5 : (x == l) = true) : Calls Tryz.prog 68 #[IV n nm wd f e l m, DV 1 s false x k] w fun r w' => r = .returned (.bool true) ∧ Below w.heap.size w w' := by
  have hN := dat_num (w0 := w.alloc (.cells #[.int .i64 n, .string nm, .int .i64 2, .int .i64 wd, .int .i64 ((f : Int) + 1), .int .i64 e, .int .i64 l, .int .i64 m, .int .i64 ((f : Int) - 1), .bool false] 64)) (c := 1) (s := s) (g := false) (x := x) (k := k) (Below.refl _ _)
  rw [World.size_alloc] at hN
  have cl := c38 _ hN
  clear hN c38
  go_enter Tryz.func68, Tryz.ntmps68
  go_wp2_with (go_at_call 61; refine cl.mono ?_; rintro e w1 ⟨rfl, rfl⟩)
  go_ret
  exact ⟨by first | rfl | simp [*], bgo⟩
set_option maxHeartbeats 1000000 in
theorem is2_g  : Calls Tryz.prog 68 #[IV n nm wd f e l m, DV 2 s true x k] w fun r w' => r = .returned (.bool false) ∧ Below w.heap.size w w' := by
  have hN := dat_num (w0 := w.alloc (.cells #[.int .i64 n, .string nm, .int .i64 2, .int .i64 wd, .int .i64 ((f : Int) + 1), .int .i64 e, .int .i64 l, .int .i64 m, .int .i64 ((f : Int) - 1), .bool false] 64)) (c := 2) (s := s) (g := true) (x := x) (k := k) (Below.refl _ _)
  rw [World.size_alloc] at hN
  have cl := c38 _ hN
  clear hN c38
  go_enter Tryz.func68, Tryz.ntmps68
  go_wp2_with (go_at_call 61; refine cl.mono ?_; rintro e w1 ⟨rfl, rfl⟩)
  go_ret
  exact ⟨by first | rfl | simp [*], bgo⟩
set_option maxHeartbeats 1000000 in
theorem is2_l (h1 : (L == 0) = false) : Calls Tryz.prog 68 #[IV n nm wd f e l m, DV 2 s false x k] w fun r w' => r = .returned (.bool false) ∧ Below w.heap.size w w' := by
  have hN := dat_num (w0 := w.alloc (.cells #[.int .i64 n, .string nm, .int .i64 2, .int .i64 wd, .int .i64 ((f : Int) + 1), .int .i64 e, .int .i64 l, .int .i64 m, .int .i64 ((f : Int) - 1), .bool false] 64)) (c := 2) (s := s) (g := false) (x := x) (k := k) (Below.refl _ _)
  rw [World.size_alloc] at hN
  have cl := c38 _ hN
  clear hN c38
  go_enter Tryz.func68, Tryz.ntmps68
  go_wp2_with (go_at_call 61; refine cl.mono ?_; rintro e w1 ⟨rfl, rfl⟩)
  go_ret
  exact ⟨by first | rfl | simp [*], bgo⟩
set_option maxHeartbeats 1000000 in
theorem is2_x (h1 : (L == 0) = true) (h2 : (x == 0) = false) : Calls Tryz.prog 68 #[IV n nm wd f e l m, DV 2 s false x k] w fun r w' => r = .returned (.bool false) ∧ Below w.heap.size w w' := by
  have hN := dat_num (w0 := w.alloc (.cells #[.int .i64 n, .string nm, .int .i64 2, .int .i64 wd, .int .i64 ((f : Int) + 1), .int .i64 e, .int .i64 l, .int .i64 m, .int .i64 ((f : Int) - 1), .bool false] 64)) (c := 2) (s := s) (g := false) (x := x) (k := k) (Below.refl _ _)
  rw [World.size_alloc] at hN
  have cl := c38 _ hN
  clear hN c38
  go_enter Tryz.func68, Tryz.ntmps68
  go_wp2_with (go_at_call 61; refine cl.mono ?_; rintro e w1 ⟨rfl, rfl⟩)
  go_ret
  exact ⟨by first | rfl | simp [*], bgo⟩
set_option maxHeartbeats 1000000 in
theorem is2_a (h1 : (L == 0) = true) (h2 : (x == 0) = true) : Calls Tryz.prog 68 #[IV n nm wd f e l m, DV 2 s false x k] w fun r w' => r = .returned (.bool true) ∧ Below w.heap.size w w' := by
  have hN := dat_num (w0 := w.alloc (.cells #[.int .i64 n, .string nm, .int .i64 2, .int .i64 wd, .int .i64 ((f : Int) + 1), .int .i64 e, .int .i64 l, .int .i64 m, .int .i64 ((f : Int) - 1), .bool false] 64)) (c := 2) (s := s) (g := false) (x := x) (k := k) (Below.refl _ _)
  rw [World.size_alloc] at hN
  have cl := c38 _ hN
  clear hN c38
  go_enter Tryz.func68, Tryz.ntmps68
  go_wp2_with (go_at_call 61; refine cl.mono ?_; rintro e w1 ⟨rfl, rfl⟩)
  go_ret
  exact ⟨by first | rfl | simp [*], bgo⟩
set_option maxHeartbeats 1000000 in
theorem is3_x (h2 : (x == 0) = false) : Calls Tryz.prog 68 #[IV n nm wd f e l m, DV 3 s g x k] w fun r w' => r = .returned (.bool false) ∧ Below w.heap.size w w' := by
  have hN := dat_num (w0 := w.alloc (.cells #[.int .i64 n, .string nm, .int .i64 2, .int .i64 wd, .int .i64 ((f : Int) + 1), .int .i64 e, .int .i64 l, .int .i64 m, .int .i64 ((f : Int) - 1), .bool false] 64)) (c := 3) (s := s) (g := g) (x := x) (k := k) (Below.refl _ _)
  rw [World.size_alloc] at hN
  have cl := c38 _ hN
  clear hN c38
  go_enter Tryz.func68, Tryz.ntmps68
  go_wp2_with (go_at_call 61; refine cl.mono ?_; rintro e w1 ⟨rfl, rfl⟩)
  go_ret
  exact ⟨by first | rfl | simp [*], bgo⟩
set_option maxHeartbeats 1000000 in
theorem is3_l (h2 : (x == 0) = true) (h1 : ¬ L ≤ (f : Int) - 1) : Calls Tryz.prog 68 #[IV n nm wd f e l m, DV 3 s g x k] w fun r w' => r = .returned (.bool false) ∧ Below w.heap.size w w' := by
  have hN := dat_num (w0 := w.alloc (.cells #[.int .i64 n, .string nm, .int .i64 2, .int .i64 wd, .int .i64 ((f : Int) + 1), .int .i64 e, .int .i64 l, .int .i64 m, .int .i64 ((f : Int) - 1), .bool false] 64)) (c := 3) (s := s) (g := g) (x := x) (k := k) (Below.refl _ _)
  rw [World.size_alloc] at hN
  have cl := c38 _ hN
  clear hN c38
  go_enter Tryz.func68, Tryz.ntmps68
  go_wp2_with (go_at_call 61; refine cl.mono ?_; rintro e w1 ⟨rfl, rfl⟩)
  go_ret
  exact ⟨by first | rfl | simp [*], bgo⟩
set_option maxHeartbeats 1000000 in
theorem is3_a (h2 : (x == 0) = true) (h1 : L ≤ (f : Int) - 1) (h3 : 0 < L) : Calls Tryz.prog 68 #[IV n nm wd f e l m, DV 3 s g x k] w fun r w' => r = .returned (.bool true) ∧ Below w.heap.size w w' := by
  have hN := dat_num (w0 := w.alloc (.cells #[.int .i64 n, .string nm, .int .i64 2, .int .i64 wd, .int .i64 ((f : Int) + 1), .int .i64 e, .int .i64 l, .int .i64 m, .int .i64 ((f : Int) - 1), .bool false] 64)) (c := 3) (s := s) (g := g) (x := x) (k := k) (Below.refl _ _)
  rw [World.size_alloc] at hN
  have cl := c38 _ hN
  clear hN c38
  go_enter Tryz.func68, Tryz.ntmps68
  go_wp2_with (go_at_call 61; refine cl.mono ?_; rintro e w1 ⟨rfl, rfl⟩)
  go_ret
  exact ⟨by first | rfl | simp [*], bgo⟩
set_option maxHeartbeats 1000000 in
theorem is3_q (h2 : (x == 0) = true) (h1 : L ≤ (f : Int) - 1) (h3 : ¬ 0 < L) : Calls Tryz.prog 68 #[IV n nm wd f e l m, DV 3 s false x k] w fun r w' => r = .returned (.bool true) ∧ Below w.heap.size w w' := by
  have hN := dat_num (w0 := w.alloc (.cells #[.int .i64 n, .string nm, .int .i64 2, .int .i64 wd, .int .i64 ((f : Int) + 1), .int .i64 e, .int .i64 l, .int .i64 m, .int .i64 ((f : Int) - 1), .bool false] 64)) (c := 3) (s := s) (g := false) (x := x) (k := k) (Below.refl _ _)
  rw [World.size_alloc] at hN
  have cl := c38 _ hN
  clear hN c38
  go_enter Tryz.func68, Tryz.ntmps68
  go_wp2_with (go_at_call 61; refine cl.mono ?_; rintro e w1 ⟨rfl, rfl⟩)
  go_ret
  exact ⟨by first | rfl | simp [*], bgo⟩
set_option maxHeartbeats 1000000 in
theorem is3_s (h2 : (x == 0) = true) (h1 : L ≤ (f : Int) - 1) (h3 : ¬ 0 < L) : Calls Tryz.prog 68 #[IV n nm wd f e l m, DV 3 s true x k] w fun r w' => r = .returned (.bool false) ∧ Below w.heap.size w w' := by
  have hN := dat_num (w0 := w.alloc (.cells #[.int .i64 n, .string nm, .int .i64 2, .int .i64 wd, .int .i64 ((f : Int) + 1), .int .i64 e, .int .i64 l, .int .i64 m, .int .i64 ((f : Int) - 1), .bool false] 64)) (c := 3) (s := s) (g := true) (x := x) (k := k) (Below.refl _ _)
  rw [World.size_alloc] at hN
  have cl := c38 _ hN
  clear hN c38
  go_enter Tryz.func68, Tryz.ntmps68
  go_wp2_with (go_at_call 61; refine cl.mono ?_; rintro e w1 ⟨rfl, rfl⟩)
  go_ret
  exact ⟨by first | rfl | simp [*], bgo⟩
set_option maxHeartbeats 1000000 in
theorem is_0 (h1 : (c == 1) = false) (h2 : (c == 2) = false) (h3 : (c == 3) = false) : Calls Tryz.prog 68 #[IV n nm wd f e l m, DV c s g x k] w fun r w' => r = .returned (.bool false) ∧ Below w.heap.size w w' := by
  have hN := dat_num (w0 := w.alloc (.cells #[.int .i64 n, .string nm, .int .i64 2, .int .i64 wd, .int .i64 ((f : Int) + 1), .int .i64 e, .int .i64 l, .int .i64 m, .int .i64 ((f : Int) - 1), .bool false] 64)) (c := c) (s := s) (g := g) (x := x) (k := k) (Below.refl _ _)
  rw [World.size_alloc] at hN
  have cl := c38 _ hN
  clear hN c38
  go_enter Tryz.func68, Tryz.ntmps68
  go_wp2_with (go_at_call 61; refine cl.mono ?_; rintro e w1 ⟨rfl, rfl⟩)
  go_ret
  exact ⟨by first | rfl | simp [*], bgo⟩
end
theorem ris_any (n : Int) (nm : ByteArray) (wd : Int) (f e : Nat) (l m : Int) (d : Dat) (w : World) (h : Fm f e l m) (hk : d.k < 2 ^ 256) :
    Calls Tryz.prog 68 #[IV n nm wd f e l m, d.v] w fun r w' => r = .returned (.bool (decide (isD f l m d))) ∧ Below w.heap.size w w' := by
  obtain ⟨c, s, g, x, k⟩ := d
  unfold Dat.v
  dsimp only at hk ⊢
  have hf : 2 ≤ f ∧ f ≤ 240 := ⟨h.f2, h.f240⟩
  have c38 : ∀ W, Num W (some ⟨w.heap.size + 1, 4, none⟩) 4 4 (lowW (W4 k) 4) → Calls Tryz.prog 61 #[.slice (some ⟨w.heap.size + 1, 4, none⟩) 4 4] W fun e w' => e = .returned (.int .i64 (lenL (W4 k) 4)) ∧ W = w' := fun W hN => by
    have := rlen_num (some ⟨w.heap.size + 1, 4, none⟩) 4 4 (lowW (W4 k) 4) W (by decide) hN
    rw [lenL_low] at this
    exact this
  have hL1 := len4_le (k := f + 1) hk
  have hL0 := len4_le (k := f) hk
  have hLp := len4_le (k := f - 1) hk
  have hLz := len4_zero hk
  have hz0 : 0 ≤ lenL (W4 k) 4 := by
    by_cases hz : k = 0
    · rw [hLz.2 hz]; exact Int.le_refl _
    · have := len4_le (k := 0) hk
      have h1 : ¬ lenL (W4 k) 4 ≤ ((0 : Nat) : Int) := fun hh => hz (by have := this.1 hh; omega)
      omega
  rw [show ((f + 1 : Nat) : Int) = (f : Int) + 1 by omega] at hL1
  rw [show ((f - 1 : Nat) : Int) = (f : Int) - 1 by omega] at hLp
  generalize lenL (W4 k) 4 = L at *
  have D : ∀ (p : Prop) [Decidable p] (b : Bool), (b = true ↔ p) → decide p = b := fun p _ b hb => by
    cases b
    · exact decide_eq_false fun hp => by simpa using hb.2 hp
    · exact decide_eq_true (hb.1 rfl)
  by_cases h1 : c = 1
  · subst h1
    cases g with
    | true => rw [D _ false (by unfold isD; simp)]; exact is1_g n nm wd f e l m x s k L w hf c38
    | false =>
      by_cases a1 : L ≤ (f : Int) + 1
      · by_cases a2 : l ≤ x
        · by_cases a3 : x ≤ m
          · by_cases a4 : L = (f : Int) + 1
            · rw [D _ true (by unfold isD; simp; refine ⟨hL1.1 a1, a2, a3, Or.inl ?_⟩; rcases Nat.lt_or_ge k (2 ^ f) with hh | hh; (have := hL0.2 hh; omega); exact hh)]
              exact is1_a n nm wd f e l m x s k L w hf c38 a1 a2 a3 (by simpa using a4)
            · by_cases a5 : x = l
              · rw [D _ true (by unfold isD; simp; exact ⟨hL1.1 a1, a2, a3, Or.inr a5⟩)]
                exact is1_b n nm wd f e l m x s k L w hf c38 a1 a2 a3 (by simpa using a4) (by simpa using a5)
              · rw [D _ false (by unfold isD; simp; intro _ _ _; have hkf := hL0.1 (by omega); exact ⟨by omega, a5⟩)]
                exact is1_n n nm wd f e l m x s k L w hf c38 a1 a2 a3 (by simpa using a4) (by simpa using a5)
          · rw [D _ false (by unfold isD; simp; intro _ _ h3; exact absurd h3 a3)]
            exact is1_m n nm wd f e l m x s k L w hf c38 a1 a2 a3
        · rw [D _ false (by unfold isD; simp; intro _ h2; exact absurd h2 a2)]
          exact is1_x n nm wd f e l m x s k L w hf c38 a1 a2
      · rw [D _ false (by unfold isD; simp; intro h3; exact absurd (hL1.2 h3) a1)]
        exact is1_l n nm wd f e l m x s k L w hf c38 a1
  · by_cases h2 : c = 2
    · subst h2
      cases g with
      | true => rw [D _ false (by unfold isD; simp)]; exact is2_g n nm wd f e l m x s k L w hf c38
      | false =>
        by_cases a1 : L = 0
        · by_cases a2 : x = 0
          · rw [D _ true (by unfold isD; simp; exact ⟨a2, hLz.1 a1⟩)]
            exact is2_a n nm wd f e l m x s k L w hf c38 (by simpa using a1) (by simpa using a2)
          · rw [D _ false (by unfold isD; simp; intro h3; exact absurd h3 a2)]
            exact is2_x n nm wd f e l m x s k L w hf c38 (by simpa using a1) (by simpa using a2)
        · rw [D _ false (by unfold isD; simp; intro _ h3; exact a1 (hLz.2 h3))]
          exact is2_l n nm wd f e l m x s k L w hf c38 (by simpa using a1)
    · by_cases h3 : c = 3
      · subst h3
        by_cases a2 : x = 0
        · by_cases a1 : L ≤ (f : Int) - 1
          · by_cases a3 : 0 < L
            · rw [D _ true (by unfold isD; simp; exact ⟨a2, hLp.1 a1, Or.inl fun hh => by rw [hLz.2 hh] at a3; omega⟩)]
              exact is3_a n nm wd f e l m x s g k L w hf c38 (by simpa using a2) a1 a3
            · have k0 : k = 0 := hLz.1 (by omega)
              cases g with
              | false =>
                rw [D _ true (by unfold isD; simp; exact ⟨a2, hLp.1 a1⟩)]
                exact is3_q n nm wd f e l m x s k L w hf c38 (by simpa using a2) a1 a3
              | true =>
                rw [D _ false (by unfold isD; simp; intro _ _; exact k0)]
                exact is3_s n nm wd f e l m x s k L w hf c38 (by simpa using a2) a1 a3
          · rw [D _ false (by unfold isD; simp; intro _ h4; exact absurd (hLp.2 h4) a1)]
            exact is3_l n nm wd f e l m x s g k L w hf c38 (by simpa using a2) a1
        · rw [D _ false (by unfold isD; simp; intro h4; exact absurd h4 a2)]
          exact is3_x n nm wd f e l m x s g k L w hf c38 (by simpa using a2)
      · rw [D _ false (by unfold isD; simp [h1, h2, h3])]
        exact is_0 n nm wd f e l m c x s g k L w hf c38 (by simpa using h1) (by simpa using h2) (by simpa using h3)
end Go.Proofs.YtkefmapcaggefaaGreatDoor

namespace Go.Proofs.YtkefmapcaggefaaGreatDoor
open Go.RowKit

section
variable {P : Program} {ops : Array Oper} {Q : Exit → Act → World → Prop} {md : Region.Mode}

/-- how many of the first n are still to come -/
def toCome (listed : Array Bool) : Nat → Nat
  | 0 => 0
  | n + 1 => toCome listed n + (if listed.getD n true then 0 else 1)
theorem toCome_out {listed : Array Bool} {i : Nat} : ∀ n, n ≤ i → toCome (listed.setIfInBounds i true) n = toCome listed n
  | 0, _ => rfl
  | n + 1, h => by unfold toCome; rw [toCome_out n (by omega), getD_set_ne true (by omega)]
theorem toCome_set {listed : Array Bool} {i : Nat} (hu : listed.getD i true = false) : ∀ n, i < n → toCome (listed.setIfInBounds i true) n + 1 = toCome listed n
  | 0, h => by omega
  | n + 1, h => by
    unfold toCome
    by_cases e : i = n
    · subst e
      have hlt : i < listed.size := by
        rcases Nat.lt_or_ge i listed.size with h' | h'
        · exact h'
        · simp [Array.getElem?_eq_none h'] at hu
      rw [toCome_out i (Nat.le_refl _), hu]
      simp [hlt]
    · rw [getD_set_ne true e]
      have := toCome_set hu n (by omega)
      omega
theorem toCome_zero {listed : Array Bool} : ∀ n, toCome listed n = 0 → ∀ i, i < n → listed.getD i true = true
  | 0, _, i, h => by omega
  | n + 1, h, i, hi => by
    unfold toCome at h
    by_cases e : i = n
    · subst e
      by_cases hl : listed.getD i true = true
      · exact hl
      · rw [if_neg hl] at h; omega
    · exact toCome_zero n (by omega) i (by omega)
theorem toCome_least {listed : Array Bool} : ∀ n, 0 < toCome listed n → ∃ i, i < n ∧ listed.getD i true = false ∧ ∀ j, j < i → listed.getD j true = true
  | 0, h => by simp [toCome] at h
  | n + 1, h => by
    by_cases h0 : 0 < toCome listed n
    · obtain ⟨i, h1, h2, h3⟩ := toCome_least n h0
      exact ⟨i, by omega, h2, h3⟩
    · unfold toCome at h
      have hz := toCome_zero (listed := listed) n (by omega)
      refine ⟨n, by omega, ?_, fun j hj => hz j hj⟩
      cases hl : listed.getD n true with
      | false => rfl
      | true => rw [hl, if_pos rfl] at h; omega

/-- of the first n each waits for earlier ones alone -/
def backB (md : Region.Mode) (ops : Array Oper) (n : Nat) : Bool :=
  (List.range n).all fun i => match ops[i]? with
    | some o => o.after.all fun e => !Region.binds md e || decide (e.on < i)
    | none => false
theorem backB_spec {n : Nat} (h : backB md ops n = true) (i : Nat) (hi : i < n) : ∃ o, ops[i]? = some o ∧ ∀ e ∈ o.after, Region.binds md e = true → e.on < i := by
  have h1 := List.all_eq_true.1 h i (List.mem_range.2 hi)
  cases ho : ops[i]? with
  | none => simp only [ho] at h1; cases h1
  | some o =>
    simp only [ho] at h1
    refine ⟨o, rfl, fun e he hb => ?_⟩
    have h2 := Array.all_eq_true_iff_forall_mem.1 h1 e he
    simpa [hb] using h2

theorem getD_true_in {listed : Array Bool} {i : Nat} (hi : i < listed.size) (h : listed.getD i true = true) : listed.getD i false = true := by
  simp [hi] at h ⊢; exact h

theorem toCome_replicate (m : Nat) : ∀ n, n ≤ m → toCome (Array.replicate m false) n = n
  | 0, _ => rfl
  | n + 1, h => by unfold toCome; rw [toCome_replicate m n (by omega)]; simp [show n < m by omega]

/-- what slot t of a frame holds -/
abbrev slot (a : Act) (t : Nat) : Value := a.tmps[t]?.getD undef
theorem slot_put_ne {a : Act} {d t : Nat} {v : Value} (h : d ≠ t) : slot (a.put (some d) v) t = slot a t := by
  simp [slot, Act.put, Array.getElem?_setIfInBounds_ne h]
theorem slot_put {a : Act} {d : Nat} {v : Value} (h : d < a.tmps.size) : slot (a.put (some d) v) d = v := by
  simp [slot, Act.put, h]

/-- what is said of a value stays, whatever memory is made -/
def Stays (p : Value → World → Prop) : Prop := ∀ v w w', p v w → Below w.heap.size w w' → p v w'

/-- each of the first n writes a slot of its own -/
def dstG (l : List Oper) (D : List Nat) (n m : Nat) : Bool :=
  (List.range n).all fun i => (match l[i]? with
    | some o => o.dst == some (D.getD i 0)
    | none => false) && decide (D.getD i 0 < m) && (List.range n).all fun j => j == i || D.getD j 0 != D.getD i 0
theorem dstG_spec {l : List Oper} {D : List Nat} {n m : Nat} (h : dstG l D n m = true) (i : Nat) (hi : i < n) :
    ∃ o, l[i]? = some o ∧ o.dst = some (D.getD i 0) ∧ D.getD i 0 < m ∧ ∀ j, j < n → j ≠ i → D.getD j 0 ≠ D.getD i 0 := by
  have h1 := List.all_eq_true.1 h i (List.mem_range.2 hi)
  cases ho : l[i]? with
  | none => simp [ho] at h1
  | some o =>
    simp only [ho, Bool.and_eq_true, decide_eq_true_eq, beq_iff_eq, List.all_eq_true, Bool.or_eq_true, bne_iff_ne, List.mem_range] at h1
    exact ⟨o, rfl, h1.1.1, h1.1.2, fun j hj hne => (h1.2 j hj).resolve_left hne⟩
/-- what an operation's guard looks at is done ahead of it -/
def gdB (l : List Oper) (n : Nat) : Bool :=
  (List.range n).all fun i => match l[i]? with
    | some o => match o.guard with
      | none => true
      | some (j, _) => decide (j < n) && o.after.any fun e => Region.binds .any e && e.on == j
    | none => false
theorem gdB_spec {l : List Oper} {n : Nat} (h : gdB l n = true) (i : Nat) (hi : i < n) (o : Oper) (ho : l[i]? = some o) (j : Nat) (b : Bool) (hg : o.guard = some (j, b)) :
    j < n ∧ ∃ e ∈ o.after, Region.binds .any e = true ∧ e.on = j := by
  have h1 := List.all_eq_true.1 h i (List.mem_range.2 hi)
  simp only [ho, hg, Bool.and_eq_true, decide_eq_true_eq, Array.any_eq_true', beq_iff_eq] at h1
  obtain ⟨h1, e, he, h2, h3⟩ := h1
  exact ⟨h1, e, he, h2, h3⟩

end
end Go.Proofs.YtkefmapcaggefaaGreatDoor
