/-
  Texts that the proof leans on, joined: Um, Eb, Ec, Sd9, Se9, Oc, Od, Sj9, Dec, Dig, Sk9, Sl9.
-/
import Derived.Test.YtmommdhnogogdaaGreatDoorJ17
import Derived.Test.YtmommdhnogogdaaGreatDoorJ30
import Derived.Test.YtmommdhnogogdaaGreatDoorJ13
import Derived.Test.YtmommdhnogogdaaGreatDoorJ12
import Derived.Deep.Cut
import Derived.Test.YtmommdhnogogdaaGreatDoorJ1
import Derived.Test.YtmommdhnogogdaaGreatDoorJ22
import Derived.Test.YtmommdhnogogdaaGreatDoorJ16
import Derived.Test.YtmommdhnogogdaaGreatDoorJ14
import Derived.Test.YtmommdhnogogdaaGreatDoorJ7
import Derived.Laws.BytesArg
import Derived.Test.YtmommdhnogogdaaGreatDoorJ21
set_option linter.unusedVariables false
set_option linter.unusedSectionVars false
set_option linter.unusedSimpArgs false
set_option maxRecDepth 20000
namespace Go.Proofs.YtmommdhnogogdaaGreatDoor
open Go.RowKit
/-- an exact number: the value stays, and no member lies nearer to the exponent that is wanted -/
theorem dk_cohort {f : DF} (hf : f.ok) (d : Int) (s : Bool) {k : Nat} {x E want : Int} (hk0 : 0 < k) (hk : k < 10 ^ (3 * f.j + 1)) (hx0 : f.l ≤ x) (hx1 : x ≤ f.m) (h : TnE (k * 10 ^ x.toNat) (10 ^ (-x).toNat) E) :
    ∃ (k' : Nat) (x' : Int), dkD f d s (k * 10 ^ x.toNat) (10 ^ (-x).toNat) E want = ⟨1, s, false, x', k'⟩ ∧ dkF f d s (k * 10 ^ x.toNat) (10 ^ (-x).toNat) E = 0 ∧ f.l ≤ x' ∧ x' ≤ f.m ∧ k' < 10 ^ (3 * f.j + 1) ∧ 0 < k' ∧ k' * 10 ^ (x' - x).toNat = k * 10 ^ (x - x').toNat ∧ (x' < want → x' < f.m → k' % 10 ≠ 0) ∧ (want < x' → f.l < x' → 10 ^ (3 * f.j + 1) ≤ k' * 10) := by
  have hE : E ≤ x + 3 * f.j := by
    rcases Int.lt_or_le (x + 3 * f.j) E with q | q
    · exfalso
      have h1 := tnG_le h.1 (show x + ((3 * f.j + 1 : Nat) : Int) ≤ E by omega)
      rw [tnG_add] at h1
      have e : 10 ^ (-x).toNat * 10 ^ x.toNat * 10 ^ (3 * f.j + 1) = 10 ^ (3 * f.j + 1) * (10 ^ x.toNat * 10 ^ (-x).toNat) := by simp only [Nat.mul_comm, Nat.mul_left_comm]
      rw [e, Nat.mul_assoc k] at h1
      have := (Nat.mul_le_mul_right_iff (Nat.mul_pos (ten_pos x.toNat) (ten_pos (-x).toNat))).1 h1
      omega
    · exact q
  have hq : dkQ f E ≤ x := by unfold dkQ; omega
  obtain ⟨p, hp⟩ : ∃ p : Nat, x = dkQ f E + p := ⟨(x - dkQ f E).toNat, by omega⟩
  have hAZ : dkA (k * 10 ^ x.toNat) (dkQ f E) = dkZ (10 ^ (-x).toNat) (dkQ f E) * (k * 10 ^ p) := by
    unfold dkA dkZ
    generalize dkQ f E = q at *
    rw [← Nat.pow_add, Nat.mul_assoc, ← Nat.pow_add, Nat.mul_left_comm, ← Nat.pow_add]
    congr 2
    omega
  have hZ := dkZ_pos (ten_pos (-x).toNat) (dkQ f E)
  have hC0 : dkC0 f d s (k * 10 ^ x.toNat) (10 ^ (-x).toNat) E = k * 10 ^ p := by
    unfold dkC0
    rw [hAZ, whC_exact d s hZ]
  have hX : dkX f (k * 10 ^ x.toNat) (10 ^ (-x).toNat) E = true := by
    unfold dkX
    rw [hAZ, Nat.mul_mod_right]; rfl
  have hlt : k * 10 ^ p < 10 ^ (3 * f.j + 1) := by
    have h1 := dk_lt (f := f) h
    rw [hAZ] at h1
    exact Nat.lt_of_mul_lt_mul_left h1
  have hEe : dkE f d s (k * 10 ^ x.toNat) (10 ^ (-x).toNat) E = dkQ f E := by unfold dkE; rw [hC0, if_neg (by omega)]
  have hCc : dkC f d s (k * 10 ^ x.toNat) (10 ^ (-x).toNat) E = k * 10 ^ p := by unfold dkC; rw [hC0, if_neg (by omega)]
  have hm : ¬ f.m < dkQ f E := by omega
  have hge : f.l < dkQ f E → 10 ^ (3 * f.j) ≤ k * 10 ^ p := fun hl => by
    have := dkC0_ge (f := f) (d := d) (s := s) (ten_pos (-x).toNat) h (by unfold dkQ at hl ⊢; omega)
    rw [hC0] at this
    exact this
  have hl : f.l ≤ dkQ f E := by unfold dkQ; omega
  have hD : dkD f d s (k * 10 ^ x.toNat) (10 ^ (-x).toNat) E want = ⟨1, s, false, (dkM f d s (k * 10 ^ x.toNat) (10 ^ (-x).toNat) E want).2, (dkM f d s (k * 10 ^ x.toNat) (10 ^ (-x).toNat) E want).1⟩ := by
    unfold dkD; rw [hEe, if_neg hm, hX, if_pos rfl]
  have hF : dkF f d s (k * 10 ^ x.toNat) (10 ^ (-x).toNat) E = 0 := by unfold dkF; rw [hEe, if_neg hm, hX]; rfl
  have hM : dkM f d s (k * 10 ^ x.toNat) (10 ^ (-x).toNat) E want = mbr f.m want (f.m - dkQ f E).toNat (k * 10 ^ p) (dkQ f E) := by unfold dkM; rw [hEe, hCc]
  rw [hM] at hD
  obtain ⟨a1, a2, a3, a4⟩ := mbr_all (m := f.m) (want := want) (f.m - dkQ f E).toNat (k * 10 ^ p) (dkQ f E) (by omega)
  have a5 := mbr_far (m := f.m) (want := want) (f.m - dkQ f E).toNat (k * 10 ^ p) (dkQ f E) (by omega)
  have a6 := mbr_near (m := f.m) (want := want) (f.m - dkQ f E).toNat (k * 10 ^ p) (dkQ f E)
  clear hM hEe hCc hX hC0 hAZ hZ h
  generalize dkQ f E = q at *
  generalize mbr f.m want (f.m - q).toNat (k * 10 ^ p) q = r at *
  obtain ⟨k', x'⟩ := r
  simp only at a1 a2 a3 a4 a5 a6 hD
  have hkp : 0 < k * 10 ^ p := Nat.mul_pos hk0 (ten_pos p)
  refine ⟨k', x', hD, hF, by omega, a3, by omega, ?_, ?_, a5, ?_⟩
  · rcases Nat.eq_zero_or_pos k' with e | e
    · rw [e, Nat.zero_mul] at a4; omega
    · exact e
  · obtain ⟨a, ha⟩ : ∃ a : Nat, x' = q + a := ⟨(x' - q).toNat, by omega⟩
    rw [show (x' - q).toNat = a by omega] at a4
    rcases Nat.le_total p a with hpa | hpa
    · obtain ⟨b, rfl⟩ : ∃ b, a = p + b := ⟨a - p, by omega⟩
      rw [show (x' - x).toNat = b by omega, show (x - x').toNat = 0 by omega, Nat.pow_zero, Nat.mul_one]
      rw [Nat.pow_add, Nat.mul_left_comm, Nat.mul_comm] at a4
      exact Nat.eq_of_mul_eq_mul_right (ten_pos p) a4
    · obtain ⟨b, rfl⟩ : ∃ b, p = a + b := ⟨p - a, by omega⟩
      rw [show (x' - x).toNat = 0 by omega, show (x - x').toNat = b by omega, Nat.pow_zero, Nat.mul_one]
      rw [Nat.pow_add, Nat.mul_left_comm, Nat.mul_comm] at a4
      exact Nat.eq_of_mul_eq_mul_left (ten_pos a) a4
  · intro h1 h2
    rcases a6 with e | e
    · subst e
      rw [Int.sub_self, Int.toNat_zero, Nat.pow_zero, Nat.mul_one] at a4
      have := hge h2
      rw [a4, Nat.pow_succ]
      exact Nat.mul_le_mul_right _ this
    · omega
end Go.Proofs.YtmommdhnogogdaaGreatDoor

namespace Go.Proofs.YtmommdhnogogdaaGreatDoor
open Go.RowKit
theorem tnG_ab (N D : Nat) {e : Int} {a b : Nat} (h : (a : Int) - b = e) : tnG N D e ↔ D * 10 ^ a ≤ N * 10 ^ b := by
  obtain ⟨k, hk⟩ : ∃ k : Nat, a = e.toNat + k := ⟨a - e.toNat, by omega⟩
  have hb : b = (-e).toNat + k := by omega
  unfold tnG
  rw [hk, hb, Nat.pow_add, Nat.pow_add, ← Nat.mul_assoc, ← Nat.mul_assoc]
  exact (Nat.mul_le_mul_right_iff (ten_pos k)).symm
theorem tnG_sh (N D : Nat) (e x : Int) : tnG (N * 10 ^ x.toNat) (D * 10 ^ (-x).toNat) (e + x) ↔ tnG N D e := by
  rw [tnG_ab N D (show (((e + x).toNat + (-x).toNat : Nat) : Int) - (((-(e + x)).toNat + x.toNat : Nat) : Int) = e by omega)]
  unfold tnG
  rw [Nat.pow_add, Nat.pow_add, Nat.mul_assoc, Nat.mul_assoc, Nat.mul_comm (10 ^ (e + x).toNat), Nat.mul_comm (10 ^ (-(e + x)).toNat)]
theorem TnE_sh {N D : Nat} {L : Int} (h : TnE N D L) (x : Int) : TnE (N * 10 ^ x.toNat) (D * 10 ^ (-x).toNat) (L + x) := by
  unfold TnE at *
  rw [show L + x + 1 = L + 1 + x by omega, tnG_sh, tnG_sh]
  exact h
theorem tnX_sh {N D : Nat} {L : Int} (hN : 0 < N) (hD : 0 < D) (h : TnE N D L) (x : Int) : tnX (N * 10 ^ x.toNat) (D * 10 ^ (-x).toNat) = L + x :=
  (tnX_is (Nat.mul_pos hN (ten_pos _)) (Nat.mul_pos hD (ten_pos _))).only (TnE_sh h x)
/-- the fraction at once -/
theorem dk_at (N D : Nat) (x q : Int) : ∃ k, 0 < k ∧ dkA (N * 10 ^ x.toNat) q = N * 10 ^ (x - q).toNat * k ∧ dkZ (D * 10 ^ (-x).toNat) q = D * 10 ^ (-(x - q)).toNat * k := by
  refine ⟨10 ^ (x.toNat + (-q).toNat - (x - q).toNat), ten_pos _, ?_, ?_⟩
  · unfold dkA
    rw [Nat.mul_assoc, Nat.mul_assoc, ← Nat.pow_add, ← Nat.pow_add]
    congr 2
    omega
  · unfold dkZ
    rw [Nat.mul_assoc, Nat.mul_assoc, ← Nat.pow_add, ← Nat.pow_add]
    congr 2
    omega
theorem dkC0_at (f : DF) (d : Int) (s : Bool) (N D : Nat) (x E : Int) : dkC0 f d s (N * 10 ^ x.toNat) (D * 10 ^ (-x).toNat) E = whC d s (N * 10 ^ (x - dkQ f E).toNat) (D * 10 ^ (-(x - dkQ f E)).toNat) := by
  obtain ⟨k, hk, h1, h2⟩ := dk_at N D x (dkQ f E)
  unfold dkC0
  rw [h1, h2, whC_mul _ _ _ _ hk]
theorem dkX_at (f : DF) (N D : Nat) (x E : Int) : dkX f (N * 10 ^ x.toNat) (D * 10 ^ (-x).toNat) E = decide (N * 10 ^ (x - dkQ f E).toNat % (D * 10 ^ (-(x - dkQ f E)).toNat) = 0) := by
  obtain ⟨k, hk, h1, h2⟩ := dk_at N D x (dkQ f E)
  unfold dkX
  rw [h1, h2, Nat.mul_mod_mul_right]
  refine decide_eq_decide.2 ?_
  rw [Nat.mul_eq_zero]
  omega
/-- far below the least number -/
theorem whC_low (d : Int) (s : Bool) {A Z : Nat} (hA : 0 < A) (h : 2 * A < Z) : whC d s A Z = if d ≠ 0 ∧ d ≠ 1 ∧ inB d s = true then 1 else 0 := by
  unfold whC faB
  rw [Nat.div_eq_of_lt (by omega), Nat.mod_eq_of_lt (by omega), if_neg (show ¬ A = 0 by omega)]
  by_cases h0 : d = 0
  · rw [if_pos h0, if_neg (by simp; omega), if_neg (by omega)]
  · rw [if_neg h0]
    by_cases h1 : d = 1
    · rw [if_pos h1, if_neg (by simp; omega), if_neg (by omega)]
    · rw [if_neg h1]
      cases inB d s
      · simp
      · simp [h0, h1]
theorem dk_low {f : DF} (hf : f.ok) (d : Int) (s : Bool) {N D : Nat} {E : Int} (y : Int) (hN : 0 < N) (h : TnE N D E) (hE : E ≤ f.l - 2) :
    dkD f d s N D E y = ⟨1, s, false, f.l, if d ≠ 0 ∧ d ≠ 1 ∧ inB d s = true then 1 else 0⟩ ∧ dkF f d s N D E = 12 := by
  obtain ⟨m0, m1, l0, l1, lm, j0, j1⟩ := ok_m hf
  have hq : dkQ f E = f.l := by unfold dkQ; omega
  have hn : ¬ tnG N D (f.l - 1) := fun g => h.2 (tnG_le g (by omega))
  rw [tnG_ab N D (show ((f.l.toNat : Nat) : Int) - (((-f.l).toNat + 1 : Nat) : Int) = f.l - 1 by omega), Nat.pow_succ, ← Nat.mul_assoc] at hn
  have hA : 0 < dkA N f.l := Nat.mul_pos hN (ten_pos _)
  have hAZ : dkA N f.l * 10 < dkZ D f.l := by unfold dkA dkZ; omega
  have hC : dkC0 f d s N D E = if d ≠ 0 ∧ d ≠ 1 ∧ inB d s = true then 1 else 0 := by
    unfold dkC0
    rw [hq]
    exact whC_low d s hA (by omega)
  have hX : dkX f N D E = false := by
    unfold dkX
    rw [hq, Nat.mod_eq_of_lt (by omega)]
    exact decide_eq_false (by omega)
  have hlt : ¬ (10 : Nat) ^ (3 * f.j + 1) ≤ dkC0 f d s N D E := by
    have : (10 : Nat) ^ 1 ≤ 10 ^ (3 * f.j + 1) := Nat.pow_le_pow_right (by decide) (by omega)
    rw [hC]
    split <;> omega
  have hEe : dkE f d s N D E = f.l := by unfold dkE; rw [if_neg hlt, hq]
  have hCc : dkC f d s N D E = if d ≠ 0 ∧ d ≠ 1 ∧ inB d s = true then 1 else 0 := by unfold dkC; rw [if_neg hlt, hC]
  unfold dkD dkF
  rw [hEe, hX, hCc]
  have hml : ¬ f.m < f.l := by omega
  refine ⟨?_, ?_⟩
  · rw [if_neg hml]; rfl
  · rw [if_neg hml]
    show (if E < f.l + 3 * f.j then (12 : Int) else 8) = 12
    exact if_pos (by omega)
/-- far above the greatest -/
theorem dk_high {f : DF} (d : Int) (s : Bool) {N D : Nat} {E : Int} (y : Int) (hE : f.m + (3 * f.j + 1) ≤ E) :
    dkD f d s N D E y = (if inB d s then ⟨2, s, false, 0, 0⟩ else ⟨1, s, false, f.m, 10 ^ (3 * f.j + 1) - 1⟩) ∧ dkF f d s N D E = 10 := by
  have hq : f.m < dkE f d s N D E := by unfold dkE dkQ; split <;> omega
  unfold dkD dkF
  rw [if_pos hq, if_pos hq]
  exact ⟨rfl, rfl⟩
/-- the exponent as the program takes it -/
def pX (f : DF) (L x : Int) : Int := min (max x (f.l - 2 - L)) (f.m + (3 * f.j + 1) - L)
theorem dk_clamp {f : DF} (hf : f.ok) (d : Int) (s : Bool) {N D : Nat} {L : Int} (x y : Int) (hN : 0 < N) (h : TnE N D L) (hL : -9000 ≤ L ∧ L ≤ 9000) :
    dkD f d s (N * 10 ^ (clT x).toNat) (D * 10 ^ (-(clT x)).toNat) (L + clT x) y = dkD f d s (N * 10 ^ (pX f L x).toNat) (D * 10 ^ (-(pX f L x)).toNat) (L + pX f L x) y
    ∧ dkF f d s (N * 10 ^ (clT x).toNat) (D * 10 ^ (-(clT x)).toNat) (L + clT x) = dkF f d s (N * 10 ^ (pX f L x).toNat) (D * 10 ^ (-(pX f L x)).toNat) (L + pX f L x) := by
  obtain ⟨m0, m1, l0, l1, lm, j0, j1⟩ := ok_m hf
  rcases Int.lt_or_le x (f.l - 2 - L) with c | c
  · have e1 : L + clT x ≤ f.l - 2 := by unfold clT; omega
    have e2 : L + pX f L x ≤ f.l - 2 := by unfold pX; omega
    obtain ⟨a1, a2⟩ := dk_low hf d s y (Nat.mul_pos hN (ten_pos _)) (TnE_sh h (clT x)) e1
    obtain ⟨b1, b2⟩ := dk_low hf d s y (Nat.mul_pos hN (ten_pos _)) (TnE_sh h (pX f L x)) e2
    exact ⟨a1.trans b1.symm, a2.trans b2.symm⟩
  · rcases Int.lt_or_le (f.m + (3 * f.j + 1) - L) x with c' | c'
    · have e1 : f.m + (3 * f.j + 1) ≤ L + clT x := by unfold clT; omega
      have e2 : f.m + (3 * f.j + 1) ≤ L + pX f L x := by unfold pX; omega
      obtain ⟨a1, a2⟩ := dk_high (f := f) (N := N * 10 ^ (clT x).toNat) (D := D * 10 ^ (-(clT x)).toNat) d s y e1
      obtain ⟨b1, b2⟩ := dk_high (f := f) (N := N * 10 ^ (pX f L x).toNat) (D := D * 10 ^ (-(pX f L x)).toNat) d s y e2
      exact ⟨a1.trans b1.symm, a2.trans b2.symm⟩
    · have e : clT x = pX f L x := by unfold clT pX; omega
      rw [e]
      exact ⟨rfl, rfl⟩
theorem tn_bd {N D : Nat} {L : Int} (hN : 0 < N) (hD : 0 < D) (h1 : bl N ≤ 25600) (h2 : bl D ≤ 25600) (h : TnE N D L) : -9000 ≤ L ∧ L ≤ 9000 := by
  have a := tnG_up hD h.1
  have b := tnG_dn hN h.2
  omega
/-- what decround answers, as the program reckons it -/
theorem drd_num {n d : Int} {s : Bool} {N D : Nat} {x y L : Int} (hE : rqE n d N D = 0) (hN : N ≠ 0) (h : TnE N D L) :
    rqD n d s N D x y = dkD (fD n) d s (N * 10 ^ (pX (fD n) L x).toNat) (D * 10 ^ (-(pX (fD n) L x)).toNat) (L + pX (fD n) L x) y
    ∧ rqF n d s N D x = dkF (fD n) d s (N * 10 ^ (pX (fD n) L x).toNat) (D * 10 ^ (-(pX (fD n) L x)).toNat) (L + pX (fD n) L x) := by
  obtain ⟨h1, h2, h3, h4, h5⟩ := rq_zero hE
  have hN' : 0 < N := by omega
  have hD' : 0 < D := by omega
  obtain ⟨a, b⟩ := dk_clamp (fD_ok n) d s x y hN' h (tn_bd hN' hD' h4 h5 h)
  unfold rqD rqF
  rw [if_pos hE, if_pos hE, if_neg hN, if_neg hN, tnX_sh hN' hD' h, a, b]
  exact ⟨rfl, rfl⟩
end Go.Proofs.YtmommdhnogogdaaGreatDoor

namespace Go.Proofs.YtmommdhnogogdaaGreatDoor
open Go.RowKit
theorem nz_more2 {K V : Nat} {v : Value} {w w' : World} (h : Nz K V v w) (hb : Below w.heap.size w w') : Nz (K + 2) V v w' := by
  obtain ⟨a, k, cap, z, rfl, hk, hN, hv, hs⟩ := h
  exact ⟨a, k, cap, z, rfl, by omega, hN.next hb, hv, hs⟩
theorem nt_w1 {W : World} {g V : Nat} {vi : Int} (hg : g = W.heap.size) (hv : vi = (V : Int)) (hb : V < 18446744073709551616) : Nt 1 V (.slice (some ⟨g, 0, none⟩) 1 1) (W.alloc (.cells #[.int .u64 vi] 22)) := by
  subst hg hv
  exact ⟨_, 1, 1, oneW V, rfl, Nat.le_refl _, num_one W V (by omega), val_one1 V⟩
section
variable (d : Int) (s odd far : Bool) (vn vd : Value) (Q R D : Nat) (w : World) (hvb : Nt 2001 D vd w)
  (c59 : Calls Tryz.prog 66 #[vn, vd] w fun e w' => ∃ q r, e = .returned (.tuple #[q, r, .int .i64 0]) ∧ Nz 2001 Q q w' ∧ Nz 2001 R r w' ∧ Below w.heap.size w w')
  (c60 : ∀ W vr vb, Nt 2001 R vr W → Nt 2001 D vb W → Calls Tryz.prog 67 #[.int .i64 d, .bool s, .bool odd, vr, vb] W fun e w' => e = .returned (.bool far) ∧ Below W.heap.size W w')
  (c26 : ∀ W vr, Nt 2001 R vr W → Calls Tryz.prog 24 #[vr] W fun e w' => e = .returned (.int .i64 (bl R : Int)) ∧ W = w')
  (c61 : ∀ W q v, Nt 2001 Q q W → Nt 1 1 v W → Calls Tryz.prog 68 #[q, v] W fun e w' => ∃ r, e = .returned r ∧ Nz 2003 (Q + 1) r w' ∧ Below W.heap.size W w')
  (hodd : ∀ k z, Words z → val z k = (Q : Int) → 0 < k → (bits BinOp.and IntKind.u64 (z 0) 1 == 1) = odd)
  (hodd0 : Q = 0 → odd = false)
include hvb c59 c60 c26 c61 hodd hodd0
set_option maxHeartbeats 2000000 in
theorem whole_cw : Calls Tryz.prog 29 #[.int .i64 d, .bool s, vn, vd] w fun e w' => ∃ v, e = .returned (.tuple #[v, .bool (((bl R : Nat) : Int) == 0)]) ∧ Nz 2003 (if far then Q + 1 else Q) v w' ∧ Below w.heap.size w w' := by
  go_enter Tryz.func29, Tryz.ntmps29
  go_upto_region 2 with (go_at_call 66; refine c59.mono ?_; rintro e w2 ⟨q, r, rfl, hq, hr, hb2⟩)
  replace hvb := hvb.next hb2
  have hq' := hq
  obtain ⟨aq, kq, cq, zq, rfl, hkq, hNq, hvq, hsq⟩ := hq
  go_cut [12] from 13 (fun o wc => o = .bool odd ∧ wc = w2)
  case first =>
    rcases Nat.eq_zero_or_pos kq with hk0 | hk0
    · have h0 : Q = 0 := by
        subst hk0
        have : val zq 0 = 0 := rfl
        omega
      have ho := hodd0 h0
      subst ho hk0
      clear hodd hodd0 c59 c60 c61 c26
      go_wp2
      go_meet
      exact ⟨rfl, rfl⟩
    · have ho := hodd kq zq hNq.2.2.1 hvq hk0
      have hki : (0 : Int) < kq := by omega
      have hz0 := hNq.2.2.1 0
      obtain ⟨n1, n2, n3, n4, n5⟩ := hNq
      rcases n5 with ⟨_, n6⟩ | ⟨b, off, rfl, n7, n8⟩
      · omega
      · have hc0 := n8 0 hk0
        rw [Nat.add_zero] at hc0
        subst ho
        clear hodd hodd0 c59 c60 c61 c26
        go_wp2
        go_meet
        exact ⟨rfl, rfl⟩
  case rest =>
    obtain ⟨rfl, rfl⟩ := hcut
    clear hNq hvq hsq hodd hodd0 c59
    cases far with
    | false =>
      go_wp2_with (first
        | (go_at_call 67; refine (c60 _ _ _ hr.nt hvb).mono ?_; rintro e w3 ⟨rfl, hb3⟩)
        | (go_at_call 24; refine (c26 _ _ (hr.nt.next hb3)).mono ?_; rintro e w4 ⟨rfl, rfl⟩))
      exact bodyPost_ret (v := .tuple #[_, _]) (by simp only [results, Tryz.results29]; go_simp) rfl ⟨_, rfl, nz_more2 hq' hb3, bnx hb2 hb3⟩
    | true =>
      go_wp2_with (first
        | (go_at_call 67; refine (c60 _ _ _ hr.nt hvb).mono ?_; rintro e w3 ⟨rfl, hb3⟩)
        | (go_at_call 68; refine (c61 _ _ _ (hq'.nt.next (bnx hb3 bgo)) (nt_w1 (by simp) rfl (by decide))).mono ?_; rintro e w4 ⟨v4, rfl, h4, hb4⟩; have hA4 : Below wc.heap.size wc w4 := bnx (bnx hb3 bgo) hb4)
        | (go_at_call 24; refine (c26 _ _ (hr.nt.next hA4)).mono ?_; rintro e w5 ⟨rfl, rfl⟩))
      exact bodyPost_ret (v := .tuple #[v4, _]) (by simp only [results, Tryz.results29]; go_simp) rfl ⟨_, rfl, h4, bnx hb2 hA4⟩
end
theorem odd_low {k Q : Nat} {z : Nat → Int} (hz : Words z) (hv : val z k = (Q : Int)) (hk : 0 < k) : (bits BinOp.and IntKind.u64 (z 0) 1 == 1) = decide (Q % 2 = 1) := by
  have hb := hz 0
  rw [show (1 : Int) = 2 ^ 1 - 1 by decide, and_mask hb (by decide)]
  obtain ⟨k', rfl⟩ : ∃ k', k = 1 + k' := ⟨k - 1, by omega⟩
  have hs := val_split z 1 k'
  rw [hv] at hs
  have h10 : val z 1 = z 0 := by show val z 0 + z 0 * 18446744073709551616 ^ 0 = z 0; simp [val]
  rw [h10, Int.pow_one] at hs
  rcases Nat.mod_two_eq_zero_or_one Q with e | e
  · rw [decide_eq_false (by omega)]
    rw [beq_eq_false_iff_ne]; omega
  · rw [decide_eq_true e]
    rw [beq_iff_eq]; omega
theorem bl_nought (R : Nat) : (((bl R : Nat) : Int) == 0) = decide (R = 0) := by
  by_cases hz : R = 0
  · rw [hz]; rfl
  · rw [decide_eq_false hz, beq_eq_false_iff_ne]
    have := mt bl_zero.1 hz
    omega
/-- a fraction rounded to a whole number, and whether it is one -/
theorem whole_cv (d : Int) (s : Bool) {N D : Nat} {vn vd : Value} {w : World} (h : Nt 2001 N vn w) (h' : Nt 2001 D vd w) (hD : D ≠ 0) (h1 : bl N ≤ 128000) (h2 : bl D ≤ 128000) :
    Calls Tryz.prog 29 #[.int .i64 d, .bool s, vn, vd] w fun e w' => ∃ v, e = .returned (.tuple #[v, .bool (decide (N % D = 0))]) ∧ Nz 2003 (if faB d s (decide (N / D % 2 = 1)) (N % D) D then N / D + 1 else N / D) v w' ∧ Below w.heap.size w w' := by
  refine (whole_cw d s (decide (N / D % 2 = 1)) (faB d s (decide (N / D % 2 = 1)) (N % D) D) vn vd (N / D) (N % D) D w h' (ndiv_v (by decide) (by decide) h h' h1 h2 hD) (fun W vr vb a b => farther_v d s _ (by decide) (by decide) a b) (fun W vr a => nlen_v (by decide) a) (fun W q v a b => nadd_v (by decide) (by decide) a b) (fun k z hz hv hk => odd_low hz hv hk) ?_).mono ?_
  · intro h0
    rw [h0]; rfl
  · rintro e w' ⟨v, e1, e2, e3⟩
    rw [bl_nought] at e1
    exact ⟨v, e1, e2, e3⟩
end Go.Proofs.YtmommdhnogogdaaGreatDoor

namespace Go.Proofs.YtmommdhnogogdaaGreatDoor
open Go.RowKit

attribute [local irreducible] W4 Nz Nt NT
/-- is the next number below nearer than the next one above -/
def nbB (n x : Int) (k : Nat) : Bool := decide (leastN n < x) && decide (k = 2 ^ fN n)
end Go.Proofs.YtmommdhnogogdaaGreatDoor

namespace Go.Proofs.YtmommdhnogogdaaGreatDoor
open Go.RowKit

/-- all but block g is as it was, but for what is new -/
structure Mut (g : Nat) (w w' : World) : Prop where
  os : w'.os = w.os
  tape : w'.tape = w.tape
  output : w'.output = w.output
  size : w.heap.size ≤ w'.heap.size
  block : ∀ k, k < w.heap.size → k ≠ g → w'.heap[k]? = w.heap[k]?
theorem Mut.refl (g : Nat) (w : World) : Mut g w w := ⟨rfl, rfl, rfl, Nat.le_refl _, fun _ _ _ => rfl⟩
theorem Mut.trans {g : Nat} {a b c : World} (h : Mut g a b) (k : Mut g b c) : Mut g a c :=
  ⟨k.os.trans h.os, k.tape.trans h.tape, k.output.trans h.output, Nat.le_trans h.size k.size, fun i hi hg => (k.block i (Nat.lt_of_lt_of_le hi h.size) hg).trans (h.block i hi hg)⟩
theorem Mut.below {g : Nat} {a b : World} (h : Below a.heap.size a b) : Mut g a b := ⟨h.os, h.tape, h.output, h.size, fun k hk _ => h.block k hk⟩
theorem Mut.set {g : Nat} {a b : World} (h : Mut g a b) (i : Nat) (v : Value) : Mut g a (b.setCell ⟨g, i, none⟩ v) :=
  h.trans ⟨rfl, rfl, rfl, by simp [World.setCell], fun k _ hk => Below.heap_setCell _ _ _ _ hk⟩
theorem Mut.out {g B : Nat} {w0 w w' : World} (h : Mut g w w') (h0 : Below B w0 w) (hB : B ≤ g) (hs : B ≤ w0.heap.size) : Below B w0 w' :=
  h0.trans ⟨h.os, h.tape, h.output, h.size, fun k hk => h.block k (by have := h0.size; omega) (by omega)⟩
attribute [local irreducible] W4 Nz Nt NT
end Go.Proofs.YtmommdhnogogdaaGreatDoor

namespace Go.Proofs.YtmommdhnogogdaaGreatDoor
open Go.RowKit

section
variable {P : Program} {ops : Array Oper} {Q : Exit → Act → World → Prop} {md : Region.Mode}
theorem listed_set {listed : Array Bool} {i : Nat} (hi : i < listed.size) : (fun j => (listed.setIfInBounds i true).getD j false = true) = (fun j => listed.getD j false = true ∨ j = i) := by
  funext j
  apply propext
  by_cases e : j = i
  · subst e
    simp [hi]
  · rw [getD_set_ne false (fun h => e h.symm)]
    simp [e]
/-- 'B L a w': what stands where just the operations of L are done -/
theorem wpAny_inv3 {n : Nat} {B : (Nat → Prop) → Act → World → Prop} {tail : List Oper} (hs : Region.sinkB md ops n = true) (hc : Region.chainB md ops n = true) (hn : n < ops.size) (hb : backB md ops n = true)
    (htl : ∀ j, tail[j]? = ops[n + j]?) (hseq : Region.seqB md ops tail.length n (headDone n ops.size) = true)
    (hstep : ∀ (L : Nat → Prop) i o a w, i < n → ops[i]? = some o → ¬ L i → (∀ j oj, ops[j]? = some oj → L j → ∀ e ∈ oj.after, Region.binds md e = true → L e.on) → (∀ e ∈ o.after, Region.binds md e = true → L e.on) → B L a w → wpOp P ops Q i (fun a' w' => B (fun j => L j ∨ j = i) a' w') a w)
    (hend : ∀ (L : Nat → Prop) a w, (∀ i, i < n → L i) → B L a w → wpList P ops Q tail a w) :
    ∀ (f : Nat) (listed : Array Bool) (a : Act) (w : World), HeadInv md ops n listed → toCome listed n = f → B (fun j => listed.getD j false = true) a w → wpAny P md ops Q (f + tail.length) listed a w
  | 0, listed, a, w, inv, hf, hB => by
    have hz := toCome_zero n hf
    have he := headDone_eq (Nat.le_of_lt hn) inv hz
    have hw := hend _ a w (fun i hi => getD_true_in (by rw [inv.size]; omega) (hz i hi)) hB
    rw [Nat.zero_add, he]
    exact wpAny_of_seq tail n _ a w htl hseq hw
  | f + 1, listed, a, w, inv, hf, hB => by
    obtain ⟨k, hk, hku, hkl⟩ := toCome_least (listed := listed) n (by omega)
    rw [show f + 1 + tail.length = (f + tail.length) + 1 by omega]
    refine ⟨fun h0 => ?_, fun i hi => ?_⟩
    · obtain ⟨o, ho, hlt⟩ := backB_spec hb k hk
      have : k ∈ Region.ready md ops listed := mem_ready.2 ⟨hku, o, ho, fun e he hbd => by
        have := hlt e he hbd
        exact getD_true_in (by rw [inv.size]; omega) (hkl _ this)⟩
      rw [h0] at this; cases this
    · have hin : i < n := by
        rcases Nat.lt_or_ge i n with h | h
        · exact h
        · exact absurd hi (tail_waits hs hc hn inv _ k rfl hk hku i h)
      obtain ⟨hu, o, ho, hall⟩ := mem_ready.1 hi
      refine wpOp_mono (fun a' w' h3 => ?_) (hstep (fun j => listed.getD j false = true) i o a w hin ho (by show ¬ (listed.getD i false = true); rw [getD_both hu]; decide) inv.closed hall hB)
      refine wpAny_inv3 hs hc hn hb htl hseq hstep hend f _ a' w' (inv.set hi hin) (by have := toCome_set hu n hin; omega) ?_
      rw [listed_set (by rw [inv.size]; omega)]
      exact h3
theorem wp_region_inv3 (n : Nat) (B : (Nat → Prop) → Act → World → Prop) {id : Nat} {l : List Oper} {a : Act} {w : World} (hm : P.follows .mixedOrders = true) (hI : invB .any l.toArray n = true)
    (h0 : B (fun _ => False) a w.drew)
    (hstep : ∀ (L : Nat → Prop) i o a w, i < n → l[i]? = some o → ¬ L i → (∀ j oj, l[j]? = some oj → L j → ∀ e ∈ oj.after, Region.binds .any e = true → L e.on) → (∀ e ∈ o.after, Region.binds .any e = true → L e.on) → B L a w → wpOp P l.toArray Q i (fun a' w' => B (fun j => L j ∨ j = i) a' w') a w)
    (hend : ∀ (L : Nat → Prop) a w, (∀ i, i < n → L i) → B L a w → wpList P l.toArray Q (l.drop n) a w) : (Code.region id l.toArray true).wp P Q a w := by
  simp only [invB, Bool.and_eq_true, decide_eq_true_eq] at hI
  obtain ⟨⟨⟨⟨hs, hc⟩, hn⟩, hb⟩, hseq⟩ := hI
  have hdl : (l.drop n).length = l.toArray.size - n := by simp
  refine wp_region_any hm ?_
  have hf0 : (fun j => (Array.replicate l.toArray.size false).getD j false = true) = fun _ => False := by
    funext j
    rw [getD_replicate_false]
    simp
  have H := wpAny_inv3 (P := P) (Q := Q) (md := .any) (ops := l.toArray) (n := n) (B := B) (tail := l.drop n) hs hc hn hb (fun j => by simp [List.getElem?_drop]) (by rw [hdl]; exact hseq)
    (fun L i o a w hi ho hL hcl he hB => hstep L i o a w hi (by simpa using ho) hL (fun j oj hj => hcl j oj (by simpa using hj)) he hB) hend n (Array.replicate l.toArray.size false) a w.drew
    ⟨by simp, fun j oj _ hl => (by rw [getD_replicate_false] at hl; cases hl), fun t _ ht => getD_in (by simpa using ht) (getD_replicate_false _ _)⟩
    (toCome_replicate _ n (by simpa using Nat.le_of_lt hn)) (by rw [hf0]; exact h0)
  rw [hdl] at H
  have : n + (l.toArray.size - n) = l.toArray.size := by omega
  rw [this] at H
  exact H
end
end Go.Proofs.YtmommdhnogogdaaGreatDoor

namespace Go.Proofs.YtmommdhnogogdaaGreatDoor
open Go.RowKit

section
variable {P : Program} {Q : Exit → Act → World → Prop}
/-- each of the first n writes a slot of its own, or none, and has no guard -/
def dstM (l : List Oper) (D : List Nat) (n m : Nat) : Bool :=
  (List.range n).all fun i => (match l[i]? with
    | some o => (o.dst == none || (o.dst == some (D.getD i 0) && decide (D.getD i 0 < m))) && o.guard.isNone
    | none => false) && (List.range n).all fun j => j == i || D.getD j 0 != D.getD i 0
theorem dstM_spec {l : List Oper} {D : List Nat} {n m : Nat} (h : dstM l D n m = true) (i : Nat) (hi : i < n) (o : Oper) (ho : l[i]? = some o) :
    (o.dst = none ∨ (o.dst = some (D.getD i 0) ∧ D.getD i 0 < m)) ∧ o.guard = none ∧ ∀ j, j < n → j ≠ i → D.getD j 0 ≠ D.getD i 0 := by
  have h1 := List.all_eq_true.1 h i (List.mem_range.2 hi)
  simp only [ho, Bool.and_eq_true, decide_eq_true_eq, beq_iff_eq, List.all_eq_true, Bool.or_eq_true, bne_iff_ne, List.mem_range, Option.isNone_iff_eq_none] at h1
  exact ⟨h1.1.1, h1.1.2, fun j hj hne => (h1.2 j hj).resolve_left hne⟩
/-- the operation j writes its slot -/
def wrS (l : List Oper) (D : List Nat) (j : Nat) : Prop := (l[j]?).bind Oper.dst = some (D.getD j 0)
end
end Go.Proofs.YtmommdhnogogdaaGreatDoor

namespace Go.Proofs.YtmommdhnogogdaaGreatDoor
open Go.RowKit

theorem tn_ex {k : Nat} {x : Int} : ∀ (d : Nat) (g0 : Int), tnP k x g0 → ¬ tnP k x (g0 + d) → ∃ E, g0 ≤ E ∧ E < g0 + d ∧ tnP k x E ∧ ¬ tnP k x (E + 1)
  | 0, g0, h0, h1 => absurd h0 (by simpa using h1)
  | d + 1, g0, h0, h1 => by
    by_cases h : tnP k x (g0 + 1)
    · obtain ⟨E, e1, e2, e3, e4⟩ := tn_ex d (g0 + 1) h (by rw [show g0 + 1 + (d : Int) = g0 + ((d + 1 : Nat) : Int) by omega]; exact h1)
      exact ⟨E, by omega, by omega, e3, e4⟩
    · exact ⟨g0, Int.le_refl _, by omega, h0, h⟩
theorem tn_top {k : Nat} {x : Int} (hk : k < 2 ^ 256) (hx : x ≤ 17000) : ¬ tnP k x 6000 := by
  unfold tnP zE oE
  rw [show ((-6000 : Int)).toNat = 0 by decide, Nat.pow_zero, Nat.mul_one, show ((6000 : Int)).toNat = 6000 by decide]
  have h1 : (2 : Nat) ^ 18000 ≤ 10 ^ 6000 := by decide +kernel
  obtain ⟨m', hm'⟩ : ∃ m' : Nat, m' = 18000 := ⟨_, rfl⟩
  rw [← hm'] at h1
  generalize (10 : Nat) ^ 6000 = T at *
  obtain ⟨m, hm⟩ : ∃ m : Nat, m = 17000 := ⟨_, rfl⟩
  have h2 : k * 2 ^ x.toNat < 2 ^ 256 * 2 ^ m := by
    have a1 : k * 2 ^ x.toNat < 2 ^ 256 * 2 ^ x.toNat := Nat.mul_lt_mul_of_pos_right hk (Nat.two_pow_pos _)
    have a2 : 2 ^ 256 * 2 ^ x.toNat ≤ 2 ^ 256 * 2 ^ m := Nat.mul_le_mul_left _ (Nat.pow_le_pow_right (by decide) (by omega))
    exact Nat.lt_of_lt_of_le a1 a2
  rw [← Nat.pow_add] at h2
  have h3 : (2 : Nat) ^ (256 + m) ≤ 2 ^ m' := Nat.pow_le_pow_right (by decide) (by omega)
  have h4 : 1 * T ≤ 2 ^ (-x).toNat * T := Nat.mul_le_mul_right _ (Nat.two_pow_pos _)
  generalize (2 : Nat) ^ (256 + m) = Y at *
  generalize (2 : Nat) ^ m' = Y' at *
  rw [Nat.mul_assoc 4, Nat.mul_assoc 4]
  generalize 2 ^ (-x).toNat * T = Z1 at *
  generalize k * 2 ^ x.toNat = Z2 at *
  omega
attribute [local irreducible] W4 Nz Nt NT
end Go.Proofs.YtmommdhnogogdaaGreatDoor

namespace Go.Proofs.YtmommdhnogogdaaGreatDoor
open Go.RowKit

theorem p10_pos (n : Nat) : (0 : Int) < 10 ^ n := Int.pow_pos (by decide)
/-- the digit of place i -/
def dgt (V : Int) (i : Nat) : Int := V / 10 ^ i % 10
theorem dgt_bd (V : Int) (i : Nat) : 0 ≤ dgt V i ∧ dgt V i ≤ 9 := by
  unfold dgt
  have := Int.emod_nonneg (V / 10 ^ i) (show (10 : Int) ≠ 0 by decide)
  have := Int.emod_lt_of_pos (V / 10 ^ i) (show (0 : Int) < 10 by decide)
  omega
theorem dgt_small {V : Int} {L : Nat} (h0 : 0 ≤ V) (h : V < 10 ^ L) (i : Nat) (hi : L ≤ i) : dgt V i = 0 := by
  unfold dgt
  have : V / 10 ^ i = 0 := Int.ediv_eq_zero_of_lt h0 (Int.lt_of_lt_of_le h (by
    obtain ⟨k, rfl⟩ : ∃ k, i = L + k := ⟨i - L, by omega⟩
    rw [Int.pow_add]
    have h1 := p10_pos L
    have h2 := p10_pos k
    have : (10 : Int) ^ L * 1 ≤ 10 ^ L * 10 ^ k := Int.mul_le_mul_of_nonneg_left (by omega) (by omega)
    omega))
  rw [this]; rfl
theorem div_div10 (V : Int) (a b : Nat) : V / 10 ^ a / 10 ^ b = V / 10 ^ (a + b) := by
  rw [Int.pow_add, Int.ediv_ediv_of_nonneg (Int.le_of_lt (p10_pos a))]
theorem emod_mul_ediv' {W a b : Int} (ha : 0 < a) : W % (a * b) / a = W / a % b := by
  rw [Int.emod_def, Int.emod_def, ← Int.ediv_ediv_of_nonneg (Int.le_of_lt ha)]
  have : W - a * b * (W / a / b) = W + (-(b * (W / a / b))) * a := by grind
  rw [this, Int.add_mul_ediv_right _ _ (by omega)]; omega
theorem dgt_step {V r : Int} {L j : Nat} (hr : V / 10 ^ L % 10 ^ 19 = r) (hj : j < 19) : r / 10 ^ j % 10 = dgt V (L + j) := by
  unfold dgt
  rw [← div_div10]
  generalize V / 10 ^ L = W at *
  subst hr
  have h1 : (10 : Int) ^ 19 = 10 ^ j * (10 * 10 ^ (18 - j)) := by
    rw [← Int.mul_assoc, ← Int.pow_succ, ← Int.pow_add]; congr 1; omega
  have hp := p10_pos j
  have hp2 := p10_pos (18 - j)
  rw [h1, emod_mul_ediv' hp]
  exact Int.emod_emod_of_dvd _ ⟨10 ^ (18 - j), rfl⟩
/-- the digits, the highest first: those of the lowest L places -/
def decL (V : Int) (L : Nat) : List Int := if sizeL (dgt V) L = 0 then [48] else (List.range (sizeL (dgt V) L)).map fun i => 48 + dgt V (sizeL (dgt V) L - 1 - i)
theorem decL_more {V : Int} {L L' : Nat} (h0 : 0 ≤ V) (h : V < 10 ^ L) (h' : V < 10 ^ L') : decL V L = decL V L' := by
  have key : ∀ a b, a ≤ b → V < 10 ^ a → decL V b = decL V a := fun a b hab ha => by
    unfold decL
    rw [sizeL_more (fun i hi => dgt_small h0 ha i hi) b hab]
  rcases Nat.le_total L L' with e | e
  · exact (key L L' e h).symm
  · exact key L' L e h'

end Go.Proofs.YtmommdhnogogdaaGreatDoor

namespace Go.Proofs.YtmommdhnogogdaaGreatDoor
open Go.RowKit

/-- the digits of the lowest L places, as bytes -/
def blB (V : Int) (L : Nat) : List Value := (List.range L).map fun i => Value.int .u8 (48 + dgt V i)
theorem blB_succ (V : Int) (L : Nat) : blB V L ++ [Value.int .u8 (48 + dgt V L)] = blB V (L + 1) := by simp [blB, List.range_succ]
theorem owns_upd {w w' : World} {g base n : Nat} {v : Value} {xs : List Value} (h : w.ownsRow base 5 1 v n xs) (hU : Upd g w w') (hg : g < base) : w'.ownsRow base 5 1 v n xs := by
  obtain ⟨h1, h2⟩ := h
  refine ⟨h1, ?_⟩
  rcases h2 with h2 | ⟨g', cap, cur, e, hb, hh, r⟩
  · exact Or.inl h2
  · exact Or.inr ⟨g', cap, cur, e, hb, (hU.block g' (by omega)).trans hh, r⟩
/-- in the middle of the work: block s words z, the digits so far, all else as it was -/
def DigSt (w0 : World) (V : Int) (s : Nat) (z : Nat → Int) (ao : Option Addr) (L cp : Nat) (wr : World) : Prop :=
  Own w0.heap.size s z wr ∧ wr.ownsRow (w0.heap.size + 1) 5 1 (.slice ao L cp) L (blB V L) ∧ Below w0.heap.size w0 wr ∧ w0.heap.size + 1 ≤ wr.heap.size
def slLen : Value → Nat | .slice _ n _ => n | _ => 0

theorem p22 : ∀ s : Nat, (18446744073709551616 : Int) ^ s ≤ 10 ^ (22 * s)
  | 0 => by simp
  | s + 1 => by
    have ih := p22 s
    have e : (10 : Int) ^ (22 * (s + 1)) = 10 ^ (22 * s) * 10000000000000000000000 := by rw [Nat.mul_add, Int.pow_add]; rfl
    rw [e, Int.pow_succ]
    have h0 := pw_pos s
    have h1 := p10_pos (22 * s)
    generalize (18446744073709551616 : Int) ^ s = A at *
    generalize (10 : Int) ^ (22 * s) = B at *
    omega
theorem p10_lt {L s : Nat} (h : (10 : Int) ^ L < 18446744073709551616 ^ s) : L < 22 * s := by
  rcases Nat.lt_or_ge L (22 * s) with h' | h'
  · exact h'
  · have h2 := p22 s
    obtain ⟨k, rfl⟩ : ∃ k, L = 22 * s + k := ⟨L - 22 * s, by omega⟩
    rw [Int.pow_add] at h
    have h3 := p10_pos k
    have h4 := p10_pos (22 * s)
    have : (10 : Int) ^ (22 * s) * 1 ≤ 10 ^ (22 * s) * 10 ^ k := Int.mul_le_mul_of_nonneg_left (by omega) (by omega)
    omega
/-- bytes that are made: block g holds those of f, n of them, none frozen -/
def HasB (g n : Nat) (f : Nat → Int) (w : World) : Prop := g < w.heap.size ∧ ∀ i, i < n → w.cell? ⟨g, i, none⟩ = some (.int .u8 (f i)) ∧ w.frozen? ⟨g, i, none⟩ = false
theorem owns_cells {w : World} {base g L cap : Nat} {V : Int} (h : w.ownsRow base 5 1 (.slice (some ⟨g, 0, none⟩) L cap) L (blB V L)) : base ≤ g ∧ L ≤ cap ∧ cap ≤ maxLen ∧ HasB g L (fun i => 48 + dgt V i) w := by
  obtain ⟨hl, h⟩ := h
  rcases h with ⟨h, _⟩ | ⟨g', cap', cur, he, hb, hh, h1, h2, h3, h4⟩
  · cases h
  · cases he
    have hg : g < w.heap.size := by
      rcases Nat.lt_or_ge g w.heap.size with h' | h'
      · exact h'
      · rw [Array.getElem?_eq_none h'] at hh; cases hh
    refine ⟨hb, h1, h2, hg, fun i hi => ⟨?_, ?_⟩⟩
    · have hcur : cur[i]? = some (.int .u8 (48 + dgt V i)) := by
        have : (cur.toList.take (L * 1))[i]? = some (.int .u8 (48 + dgt V i)) := by rw [h4]; simp [blB, hi]
        rw [List.getElem?_take] at this
        simpa [hi] using this
      unfold World.cell?
      simp [hh, hcur]
    · unfold World.frozen?
      simp [hh]

end Go.Proofs.YtmommdhnogogdaaGreatDoor

namespace Go.Proofs.YtmommdhnogogdaaGreatDoor
open Go.RowKit

theorem NT.grown {K V Bs : Nat} {v tv : Value} {l : List UInt8} {w w' : World} (h : NT K V v w) (ho : w.ownsRow Bs 5 1 tv l.length (Lib.byteCells l)) (hl : tv = .slice none 0 0 ∨ 0 < l.length) (hg : w.grownBy w' tv.ownBlock) : NT K V v w' := by
  obtain ⟨b, k, cap, z, h1, h2, ⟨n1, n2, n3, n4, n5⟩, h4, h5⟩ := h
  refine ⟨b, k, cap, z, h1, h2, ⟨n1, n2, n3, n4, ?_⟩, h4, h5⟩
  rcases n5 with n5 | ⟨b', off, e, hb, hc⟩
  · exact Or.inl n5
  · cases e
    refine Or.inr ⟨b, 0, rfl, Nat.lt_of_lt_of_le hb hg.size, fun i hi => ?_⟩
    have hne : some b ≠ tv.ownBlock := by
      rcases hl with rfl | hl
      · intro h; cases h
      · obtain ⟨g', cap', rfl, _, _⟩ := ho.form hl
        intro h
        have : b = g' := Option.some.inj h
        subst this
        have h6 := hc 0 (by omega)
        rw [Nat.add_zero, ho.cellAt 0 (by omega)] at h6
        simp [Lib.byteCells, hl] at h6
    exact (World.cell?_of_block (w := w) (a := ⟨b, 0 + i, none⟩) (hg.block b hb hne)).trans (hc i hi)
attribute [local irreducible] W4 Nz Nt NT
end Go.Proofs.YtmommdhnogogdaaGreatDoor

namespace Go.Proofs.YtmommdhnogogdaaGreatDoor
open Go.RowKit

/-- how many quarters below a number are read as it -/
def lwN (n x : Int) (k : Nat) : Nat := if nbB n x k then 1 else 2
def evK (k : Nat) : Bool := decide (k % 2 = 0)
/-- the first digit's place, and how many digits behind it -/
structure Shd (n x : Int) (k : Nat) (E : Int) (K : Nat) : Prop where
  t0 : tnP k x E
  t1 : ¬ tnP k x (E + 1)
  st : stK (evK k) (4 * k * oE x E) (lwN n x k * oE x E) (2 * oE x E) (zE x E) K = true
  mn : ∀ j, j < K → stK (evK k) (4 * k * oE x E) (lwN n x k * oE x E) (2 * oE x E) (zE x E) j = false
theorem gs_in {k : Nat} {x : Int} (hk : k < 2 ^ 256) (hk0 : k ≠ 0) (hx : -16990 ≤ x ∧ x ≤ 16990) : tnP k x (gsP k x) ∧ -6000 ≤ gsP k x ∧ gsP k x < 6000 := by
  have hb : bl k ≤ 256 := bl_le.2 hk
  obtain ⟨b1, b2, b3⟩ := bl_bd hk0
  have e : ((bl k - 1 : Nat) : Int) = (bl k : Int) - 1 := by omega
  have := guess_ok (c := k) (L := bl k - 1) (x := x) b1 (by omega)
  rw [e] at this
  refine ⟨this, ?_⟩
  unfold gsP
  by_cases h0 : 0 ≤ (bl k : Int) - 1 + x
  · rw [Int.tdiv_eq_ediv_of_nonneg (by omega)]; omega
  · rw [show ((bl k : Int) - 1 + x) * 30103 = -(-((bl k : Int) - 1 + x) * 30103) by omega, Int.neg_tdiv, Int.tdiv_eq_ediv_of_nonneg (by omega)]; omega
theorem Shd.ex {n x : Int} {k : Nat} (hk : k < 2 ^ 256) (hk0 : k ≠ 0) (hx : -16990 ≤ x ∧ x ≤ 16990) : ∃ E K, Shd n x k E K := by
  obtain ⟨g1, g2, g3⟩ := gs_in hk hk0 hx
  obtain ⟨E, e1, e2, e3, e4⟩ := tn_ex (6000 - gsP k x).toNat (gsP k x) g1 (by rw [show gsP k x + ((6000 - gsP k x).toNat : Int) = 6000 by omega]; exact tn_top hk (by omega))
  have hl : 0 < lwN n x k * oE x E := Nat.mul_pos (by unfold lwN; split <;> decide) (oE_pos _ _)
  obtain ⟨K, h1, h2⟩ := st_ex (c := evK k) (R := 4 * k * oE x E) (u := 2 * oE x E) (zE_pos x E) hl
  exact ⟨E, K, e3, e4, h1, h2⟩
end Go.Proofs.YtmommdhnogogdaaGreatDoor
