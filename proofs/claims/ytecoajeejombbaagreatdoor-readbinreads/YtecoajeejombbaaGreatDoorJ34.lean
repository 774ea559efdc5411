/-
  Texts that the proof leans on, joined: Xm, Xa.
-/
import Derived.Test.YtecoajeejombbaaGreatDoorJ21
import Derived.Test.YtecoajeejombbaaGreatDoorJ19
import Derived.Test.YtecoajeejombbaaGreatDoorJ22
import Derived.Test.YtecoajeejombbaaGreatDoorJ33
import Derived.Deep.Cut
import Derived.Deep.CutRange
import Derived.Deep.RegionWith
import Derived.Test.YtecoajeejombbaaGreatDoorJ1
set_option linter.unusedVariables false
set_option linter.unusedSectionVars false
set_option linter.unusedSimpArgs false
set_option maxRecDepth 20000
namespace Go.Proofs.YtecoajeejombbaaGreatDoor
open Go.RowKit

theorem nr_shift (d : Int) (s : Bool) (N D a b : Nat) (k : Int) : nrC d s (N * 2 ^ a) (D * 2 ^ b) k = nrC d s N D (k + ((a : Int) - b)) ∧ (nrR (N * 2 ^ a) (D * 2 ^ b) k = 0 ↔ nrR N D (k + ((a : Int) - b)) = 0) := by
  have h := wh_sc d s N D (a + k.toNat) (b + (-k).toNat) (n := k + ((a : Int) - b)) (by omega)
  rw [Nat.pow_add, Nat.pow_add, ← Nat.mul_assoc, ← Nat.mul_assoc] at h
  exact h
theorem rX_shift {n : Int} {N D : Nat} (hN : N ≠ 0) (hD : D ≠ 0) (a b : Nat) (x : Int) : rX n (N * 2 ^ a) (D * 2 ^ b) x = rX n N D (x + ((a : Int) - b)) - ((a : Int) - b) := by
  unfold rX wiZ
  rw [ld_shift hN hD]
  omega
theorem rd_shift (n d : Int) (s : Bool) (N : Nat) {D : Nat} (hD : D ≠ 0) (a b : Nat) (x : Int) : rdV n d s (N * 2 ^ a) (D * 2 ^ b) x = rdV n d s N D (x + ((a : Int) - b)) ∧ rdF n d s (N * 2 ^ a) (D * 2 ^ b) x = rdF n d s N D (x + ((a : Int) - b)) := by
  by_cases hN : N = 0
  · subst hN
    rw [Nat.zero_mul]
    unfold rdV rdF
    rw [if_pos rfl, if_pos rfl, if_pos rfl, if_pos rfl]
    exact ⟨rfl, rfl⟩
  have hN' : N * 2 ^ a ≠ 0 := Nat.mul_ne_zero hN (Nat.pos_iff_ne_zero.1 (Nat.two_pow_pos _))
  have eX := rX_shift (n := n) hN hD a b x
  have eL := ld_shift hN hD a b
  have eQ : rQ n (N * 2 ^ a) (D * 2 ^ b) x = rQ n N D (x + ((a : Int) - b)) := by
    unfold rQ; rw [eX, eL]; congr 1; omega
  have hk := nr_shift d s N D a b (rX n (N * 2 ^ a) (D * 2 ^ b) x - rQ n (N * 2 ^ a) (D * 2 ^ b) x)
  rw [show rX n (N * 2 ^ a) (D * 2 ^ b) x - rQ n (N * 2 ^ a) (D * 2 ^ b) x + ((a : Int) - b) = rX n N D (x + ((a : Int) - b)) - rQ n N D (x + ((a : Int) - b)) by rw [eX, eQ]; omega] at hk
  have eC : rC n d s (N * 2 ^ a) (D * 2 ^ b) x = rC n d s N D (x + ((a : Int) - b)) := hk.1
  have eC' : rC' n d s (N * 2 ^ a) (D * 2 ^ b) x = rC' n d s N D (x + ((a : Int) - b)) := by unfold rC'; rw [eC]
  have eQ' : rQ' n d s (N * 2 ^ a) (D * 2 ^ b) x = rQ' n d s N D (x + ((a : Int) - b)) := by unfold rQ'; rw [eC, eQ]
  have eS : ld (N * 2 ^ a) (D * 2 ^ b) + rX n (N * 2 ^ a) (D * 2 ^ b) x = ld N D + rX n N D (x + ((a : Int) - b)) := by rw [eX, eL]; omega
  unfold rdV rdF
  rw [if_neg hN, if_neg hN, if_neg hN', if_neg hN', eC', eQ', eS]
  refine ⟨rfl, ?_⟩
  simp only [hk.2]
theorem ld_ge {N D : Nat} (hN : N ≠ 0) (hD : D ≠ 0) {k : Nat} (h : D * 2 ^ k ≤ N) : (k : Int) ≤ ld N D := by
  have hb := (ld_bd hN hD (bl D + 1 + k) (by omega)).2
  have h1 : D * 2 ^ (k + (bl D + 1 + k)) ≤ N * 2 ^ (bl D + 1 + k) := by
    rw [Nat.pow_add, ← Nat.mul_assoc]; exact Nat.mul_le_mul_right _ h
  have h2 := Nat.lt_of_le_of_lt h1 hb
  have h3 := Nat.lt_of_mul_lt_mul_left h2
  have h4 := (Nat.pow_lt_pow_iff_right (by decide : 1 < 2)).1 h3
  omega
theorem ld_le {N D : Nat} (hN : N ≠ 0) (hD : D ≠ 0) {k : Nat} (h : N * 2 ^ k ≤ D) : ld N D ≤ -(k : Int) := by
  obtain ⟨K, hK⟩ : ∃ K : Nat, K = bl D + 1 := ⟨_, rfl⟩
  have hb := (ld_bd hN hD K (by omega)).1
  have hl1 : -(bl D : Int) ≤ ld N D := by
    have := (bl_bd hN).2.2
    unfold ld; dsimp only; split <;> omega
  have h1 : D * 2 ^ ((K : Int) + ld N D).toNat * 2 ^ k ≤ D * 2 ^ K := by
    have a1 := Nat.mul_le_mul_right (2 ^ k) hb
    have a2 : N * 2 ^ K * 2 ^ k ≤ D * 2 ^ K := by rw [Nat.mul_right_comm]; exact Nat.mul_le_mul_right _ h
    exact Nat.le_trans a1 a2
  rw [Nat.mul_assoc, ← Nat.pow_add] at h1
  have h2 := Nat.le_of_mul_le_mul_left h1 (by omega)
  have h3 := (Nat.pow_le_pow_iff_right (by decide : 1 < 2)).1 h2
  omega
theorem rd_over {n : Int} (d : Int) (s : Bool) {N D : Nat} (x : Int) (hb : binN n) (hN : N ≠ 0) (h : mostN n + ((fN n : Int) + 1) ≤ ld N D + x) : rdV n d s N D x = (if inB d s then pkV n ⟨2, s, false, 0, 0⟩ else lgV n s) ∧ rdF n d s N D x = 10 := by
  obtain ⟨f1, f2, f3, f4, f5⟩ := fld_bd hb
  have hX : rX n N D x = mostN n + ((fN n : Int) + 1) - ld N D := by unfold rX wiZ; omega
  have hQ : mostN n < rQ n N D x := by unfold rQ; rw [hX]; omega
  have hQ' : mostN n < rQ' n d s N D x := by unfold rQ'; split <;> omega
  unfold rdV rdF
  rw [if_neg hN, if_neg hN, if_pos hQ', if_pos hQ']
  exact ⟨rfl, rfl⟩
theorem rd_tiny {n : Int} (d : Int) (s : Bool) {N D : Nat} (x : Int) (hb : binN n) (hN : N ≠ 0) (hD : D ≠ 0) (h : ld N D + x ≤ leastN n - 2) : rdV n d s N D x = pkV n ⟨1, s, false, leastN n, if tnB d s then 1 else 0⟩ ∧ rdF n d s N D x = 12 := by
  obtain ⟨f1, f2, f3, f4, f5⟩ := fld_bd hb
  have hX : rX n N D x = leastN n - 2 - ld N D := by unfold rX wiZ; omega
  have hQ : rQ n N D x = leastN n := by unfold rQ; rw [hX]; omega
  obtain ⟨u1, u2, u3⟩ := nr_tiny (d := d) (s := s) hN hD (k := rX n N D x - rQ n N D x) (by rw [hX, hQ]; omega)
  have hC : rC n d s N D x = if tnB d s then 1 else 0 := by unfold rC nrC; rw [u1, u2]
  have hbl : ¬ (fN n : Int) + 1 < (bl (rC n d s N D x) : Int) := by
    rw [hC]
    have b0 : bl 0 = 0 := by decide
    have b1 : bl 1 = 1 := by decide
    split <;> omega
  have hC' : rC' n d s N D x = if tnB d s then 1 else 0 := by unfold rC'; rw [if_neg hbl, hC]
  have hQ' : rQ' n d s N D x = leastN n := by unfold rQ'; rw [if_neg hbl, hQ]
  have hno : ¬ mostN n < rQ' n d s N D x := by rw [hQ']; omega
  refine ⟨by unfold rdV; rw [if_neg hN, if_neg hno, hQ', hC'], ?_⟩
  unfold rdF
  rw [if_neg hN, if_neg hno, decide_eq_false u3, if_neg (show ¬ (false = true) by decide), decide_eq_true (show ld N D + rX n N D x < (fN n : Int) + leastN n by rw [hX]; omega), if_pos rfl]
/-- the fraction of a number and a power of ten, its twos apart -/
def tN (A : Nat) (e : Int) : Nat := A * 5 ^ e.toNat
def tD (e : Int) : Nat := 5 ^ (-e).toNat
theorem tD_ne (e : Int) : tD e ≠ 0 := Nat.pos_iff_ne_zero.1 (Nat.pow_pos (by decide))
theorem p10_split (k : Nat) : 10 ^ k = 5 ^ k * 2 ^ k := by rw [← Nat.mul_pow]
theorem p10_ge2 (k : Nat) : 2 ^ (3 * k) ≤ 10 ^ k := by rw [Nat.pow_mul]; exact Nat.pow_le_pow_left (by decide) k
/-- as the document has it: all in the fraction -/
theorem ten_shift (n d : Int) (s : Bool) (A : Nat) (e : Int) : rdV n d s (A * 10 ^ e.toNat) (10 ^ (-e).toNat) 0 = rdV n d s (tN A e) (tD e) e ∧ rdF n d s (A * 10 ^ e.toNat) (10 ^ (-e).toNat) 0 = rdF n d s (tN A e) (tD e) e := by
  have h := rd_shift n d s (tN A e) (tD_ne e) e.toNat (-e).toNat 0
  unfold tN tD at h ⊢
  rw [Nat.mul_assoc, ← p10_split, ← p10_split, show (0 : Int) + ((e.toNat : Int) - ((-e).toNat : Int)) = e by omega] at h
  exact h
theorem ten_far {A L : Nat} (hL : 1 ≤ L) (h1 : 10 ^ (L - 1) ≤ A) {e : Int} (he : 0 ≤ e) (h : 6000 ≤ e + L) : 17997 ≤ ld (tN A e) (tD e) + e := by
  have hA : A ≠ 0 := by have := Nat.pow_pos (n := L - 1) (show 0 < 10 by decide); omega
  have hT : tN A e ≠ 0 := Nat.mul_ne_zero hA (Nat.pos_iff_ne_zero.1 (Nat.pow_pos (by decide)))
  have e1 : tD e = 1 := by unfold tD; rw [show (-e).toNat = 0 by omega, Nat.pow_zero]
  have hs := ld_shift hT (D := 1) (by decide) e.toNat 0
  rw [Nat.pow_zero, Nat.mul_one] at hs
  have hp : tN A e * 2 ^ e.toNat = A * 10 ^ e.toNat := by unfold tN; rw [Nat.mul_assoc, ← p10_split]
  obtain ⟨M, hM⟩ : ∃ M : Nat, M = 5999 := ⟨_, rfl⟩
  have hg : 1 * 2 ^ (3 * M) ≤ tN A e * 2 ^ e.toNat := by
    rw [hp, Nat.one_mul]
    have a1 : 10 ^ (L - 1) * 10 ^ e.toNat ≤ A * 10 ^ e.toNat := Nat.mul_le_mul_right _ h1
    rw [← Nat.pow_add] at a1
    have a2 : 10 ^ M ≤ 10 ^ (L - 1 + e.toNat) := Nat.pow_le_pow_right (by decide) (by omega)
    exact Nat.le_trans (p10_ge2 M) (Nat.le_trans a2 a1)
  have hge := ld_ge (Nat.mul_ne_zero hT (Nat.pos_iff_ne_zero.1 (Nat.two_pow_pos _))) (by decide : (1 : Nat) ≠ 0) hg
  rw [e1]
  rw [hs] at hge
  omega
theorem ten_small {A L : Nat} (hA : A ≠ 0) (h1 : A < 10 ^ L) {e : Int} (h : e + L ≤ -6000) : ld (tN A e) (tD e) + e ≤ -18000 := by
  have e1 : tN A e = A := by unfold tN; rw [show e.toNat = 0 by omega, Nat.pow_zero, Nat.mul_one]
  have hs := ld_shift hA (tD_ne e) 0 (-e).toNat
  rw [Nat.pow_zero, Nat.mul_one] at hs
  have hp : tD e * 2 ^ (-e).toNat = 10 ^ (-e).toNat := by unfold tD; rw [← p10_split]
  obtain ⟨M, hM⟩ : ∃ M : Nat, M = 6000 := ⟨_, rfl⟩
  have hg : A * 2 ^ (3 * M) ≤ tD e * 2 ^ (-e).toNat := by
    rw [hp, show (-e).toNat = L + ((-e).toNat - L) by omega, Nat.pow_add]
    have a2 : 10 ^ M ≤ 10 ^ ((-e).toNat - L) := Nat.pow_le_pow_right (by decide) (by omega)
    exact Nat.mul_le_mul (Nat.le_of_lt h1) (Nat.le_trans (p10_ge2 M) a2)
  have hle := ld_le hA (Nat.mul_ne_zero (tD_ne e) (Nat.pos_iff_ne_zero.1 (Nat.two_pow_pos _))) hg
  rw [hs] at hle
  rw [e1]
  omega
/-- the exponent as the program takes it, and as the document does -/
def pwE (L : Nat) (e : Int) : Int := min (max e (-6000 - L)) (6000 - L)
def dwE (e : Int) : Int := min (max e (-12000)) 12000
theorem ten_eq {n : Int} (d : Int) (s : Bool) {A L : Nat} (hb : binN n) (hL : 1 ≤ L ∧ L ≤ 4000) (h1 : 10 ^ (L - 1) ≤ A) (h2 : A < 10 ^ L) (e : Int) :
    rdV n d s (tN A (pwE L e)) (tD (pwE L e)) (pwE L e) = rdV n d s (tN A (dwE e)) (tD (dwE e)) (dwE e) ∧ rdF n d s (tN A (pwE L e)) (tD (pwE L e)) (pwE L e) = rdF n d s (tN A (dwE e)) (tD (dwE e)) (dwE e) := by
  obtain ⟨f1, f2, f3, f4, f5⟩ := fld_bd hb
  have hA : A ≠ 0 := by have := Nat.pow_pos (n := L - 1) (show 0 < 10 by decide); omega
  have hT : ∀ e, tN A e ≠ 0 := fun e => Nat.mul_ne_zero hA (Nat.pos_iff_ne_zero.1 (Nat.pow_pos (by decide)))
  by_cases ho : 6000 - (L : Int) < e
  · have hp : pwE L e = 6000 - L := by unfold pwE; omega
    have hd : 6000 - (L : Int) ≤ dwE e := by unfold dwE; omega
    have a1 := ten_far hL.1 h1 (e := pwE L e) (by omega) (by omega)
    have a2 := ten_far hL.1 h1 (e := dwE e) (by omega) (by omega)
    have b1 := rd_over d s (N := tN A (pwE L e)) (D := tD (pwE L e)) (pwE L e) hb (hT _) (by omega)
    have b2 := rd_over d s (N := tN A (dwE e)) (D := tD (dwE e)) (dwE e) hb (hT _) (by omega)
    exact ⟨b1.1.trans b2.1.symm, b1.2.trans b2.2.symm⟩
  · by_cases hs : e < -6000 - (L : Int)
    · have hp : pwE L e = -6000 - L := by unfold pwE; omega
      have hd : dwE e ≤ -6000 - (L : Int) := by unfold dwE; omega
      have a1 := ten_small hA h2 (e := pwE L e) (by omega)
      have a2 := ten_small hA h2 (e := dwE e) (by omega)
      have b1 := rd_tiny d s (N := tN A (pwE L e)) (D := tD (pwE L e)) (pwE L e) hb (hT _) (tD_ne _) (by omega)
      have b2 := rd_tiny d s (N := tN A (dwE e)) (D := tD (dwE e)) (dwE e) hb (hT _) (tD_ne _) (by omega)
      exact ⟨b1.1.trans b2.1.symm, b1.2.trans b2.2.symm⟩
    · have hp : pwE L e = e := by unfold pwE; omega
      have hd : dwE e = e := by unfold dwE; omega
      rw [hp, hd]
      exact ⟨rfl, rfl⟩
end Go.Proofs.YtecoajeejombbaaGreatDoor

namespace Go.Proofs.YtecoajeejombbaaGreatDoor
open Go.RowKit

theorem cpy1 (W : World) (g b off cap : Nat) (v0 : Int) (h0 : W.cell? ⟨b, off, none⟩ = some (.int .u64 v0)) (c0 : (W.cell? ⟨g, 0, none⟩).isSome = true) (f0 : W.frozen? ⟨g, 0, none⟩ = false) :
    Sem.run Tryz.prog (Builtin.copy_ #[41, 41] 3 #[.slice (some ⟨g, 0, none⟩) 4 4, .slice (some ⟨b, off, none⟩) 1 cap]) W = .ok (.int .i64 1) (W.setCell ⟨g, 0, none⟩ (.int .u64 v0)) := by
  have := run_copy_cells (P := Tryz.prog) W 41 41 3 23 g 0 4 4 ⟨b, off, none⟩ 1 cap [.int .u64 v0] Tryz.underlying41 (by kernel_rfl) rfl ?_ ?_ ?_ ?_
  · exact this
  · intro j v
    match j, v with
    | 0, _ => intro h; cases h; simpa [Addr.add] using h0
    | (j + 1), _ => intro h; simp at h
  · intro j hj
    match j, hj with
    | 0, _ => simpa using c0
    | (j + 1), h => exact absurd h (by simp only [List.length_cons, List.length_nil]; omega)
  · intro j hj
    match j, hj with
    | 0, _ => simpa using f0
    | (j + 1), h => exact absurd h (by simp only [List.length_cons, List.length_nil]; omega)
  · intro v hv
    simp at hv
    first | (subst hv; rfl) | (rcases hv with rfl | rfl <;> rfl) | (rcases hv with rfl | rfl | rfl <;> rfl) | (rcases hv with rfl | rfl | rfl | rfl <;> rfl)
theorem cpy2 (W : World) (g b off cap : Nat) (v0 v1 : Int) (h0 : W.cell? ⟨b, off, none⟩ = some (.int .u64 v0)) (h1 : W.cell? ⟨b, off + 1, none⟩ = some (.int .u64 v1)) (c0 : (W.cell? ⟨g, 0, none⟩).isSome = true) (f0 : W.frozen? ⟨g, 0, none⟩ = false) (c1 : (W.cell? ⟨g, 1, none⟩).isSome = true) (f1 : W.frozen? ⟨g, 1, none⟩ = false) :
    Sem.run Tryz.prog (Builtin.copy_ #[41, 41] 3 #[.slice (some ⟨g, 0, none⟩) 4 4, .slice (some ⟨b, off, none⟩) 2 cap]) W = .ok (.int .i64 2) ((W.setCell ⟨g, 0, none⟩ (.int .u64 v0)).setCell ⟨g, 1, none⟩ (.int .u64 v1)) := by
  have := run_copy_cells (P := Tryz.prog) W 41 41 3 23 g 0 4 4 ⟨b, off, none⟩ 2 cap [.int .u64 v0, .int .u64 v1] Tryz.underlying41 (by kernel_rfl) rfl ?_ ?_ ?_ ?_
  · exact this
  · intro j v
    match j, v with
    | 0, _ => intro h; cases h; simpa [Addr.add] using h0
    | 1, _ => intro h; cases h; simpa [Addr.add] using h1
    | (j + 2), _ => intro h; simp at h
  · intro j hj
    match j, hj with
    | 0, _ => simpa using c0
    | 1, _ => simpa using c1
    | (j + 2), h => exact absurd h (by simp only [List.length_cons, List.length_nil]; omega)
  · intro j hj
    match j, hj with
    | 0, _ => simpa using f0
    | 1, _ => simpa using f1
    | (j + 2), h => exact absurd h (by simp only [List.length_cons, List.length_nil]; omega)
  · intro v hv
    simp at hv
    first | (subst hv; rfl) | (rcases hv with rfl | rfl <;> rfl) | (rcases hv with rfl | rfl | rfl <;> rfl) | (rcases hv with rfl | rfl | rfl | rfl <;> rfl)
theorem cpy3 (W : World) (g b off cap : Nat) (v0 v1 v2 : Int) (h0 : W.cell? ⟨b, off, none⟩ = some (.int .u64 v0)) (h1 : W.cell? ⟨b, off + 1, none⟩ = some (.int .u64 v1)) (h2 : W.cell? ⟨b, off + 2, none⟩ = some (.int .u64 v2)) (c0 : (W.cell? ⟨g, 0, none⟩).isSome = true) (f0 : W.frozen? ⟨g, 0, none⟩ = false) (c1 : (W.cell? ⟨g, 1, none⟩).isSome = true) (f1 : W.frozen? ⟨g, 1, none⟩ = false) (c2 : (W.cell? ⟨g, 2, none⟩).isSome = true) (f2 : W.frozen? ⟨g, 2, none⟩ = false) :
    Sem.run Tryz.prog (Builtin.copy_ #[41, 41] 3 #[.slice (some ⟨g, 0, none⟩) 4 4, .slice (some ⟨b, off, none⟩) 3 cap]) W = .ok (.int .i64 3) (((W.setCell ⟨g, 0, none⟩ (.int .u64 v0)).setCell ⟨g, 1, none⟩ (.int .u64 v1)).setCell ⟨g, 2, none⟩ (.int .u64 v2)) := by
  have := run_copy_cells (P := Tryz.prog) W 41 41 3 23 g 0 4 4 ⟨b, off, none⟩ 3 cap [.int .u64 v0, .int .u64 v1, .int .u64 v2] Tryz.underlying41 (by kernel_rfl) rfl ?_ ?_ ?_ ?_
  · exact this
  · intro j v
    match j, v with
    | 0, _ => intro h; cases h; simpa [Addr.add] using h0
    | 1, _ => intro h; cases h; simpa [Addr.add] using h1
    | 2, _ => intro h; cases h; simpa [Addr.add] using h2
    | (j + 3), _ => intro h; simp at h
  · intro j hj
    match j, hj with
    | 0, _ => simpa using c0
    | 1, _ => simpa using c1
    | 2, _ => simpa using c2
    | (j + 3), h => exact absurd h (by simp only [List.length_cons, List.length_nil]; omega)
  · intro j hj
    match j, hj with
    | 0, _ => simpa using f0
    | 1, _ => simpa using f1
    | 2, _ => simpa using f2
    | (j + 3), h => exact absurd h (by simp only [List.length_cons, List.length_nil]; omega)
  · intro v hv
    simp at hv
    first | (subst hv; rfl) | (rcases hv with rfl | rfl <;> rfl) | (rcases hv with rfl | rfl | rfl <;> rfl) | (rcases hv with rfl | rfl | rfl | rfl <;> rfl)
theorem cpy4 (W : World) (g b off cap : Nat) (v0 v1 v2 v3 : Int) (h0 : W.cell? ⟨b, off, none⟩ = some (.int .u64 v0)) (h1 : W.cell? ⟨b, off + 1, none⟩ = some (.int .u64 v1)) (h2 : W.cell? ⟨b, off + 2, none⟩ = some (.int .u64 v2)) (h3 : W.cell? ⟨b, off + 3, none⟩ = some (.int .u64 v3)) (c0 : (W.cell? ⟨g, 0, none⟩).isSome = true) (f0 : W.frozen? ⟨g, 0, none⟩ = false) (c1 : (W.cell? ⟨g, 1, none⟩).isSome = true) (f1 : W.frozen? ⟨g, 1, none⟩ = false) (c2 : (W.cell? ⟨g, 2, none⟩).isSome = true) (f2 : W.frozen? ⟨g, 2, none⟩ = false) (c3 : (W.cell? ⟨g, 3, none⟩).isSome = true) (f3 : W.frozen? ⟨g, 3, none⟩ = false) :
    Sem.run Tryz.prog (Builtin.copy_ #[41, 41] 3 #[.slice (some ⟨g, 0, none⟩) 4 4, .slice (some ⟨b, off, none⟩) 4 cap]) W = .ok (.int .i64 4) ((((W.setCell ⟨g, 0, none⟩ (.int .u64 v0)).setCell ⟨g, 1, none⟩ (.int .u64 v1)).setCell ⟨g, 2, none⟩ (.int .u64 v2)).setCell ⟨g, 3, none⟩ (.int .u64 v3)) := by
  have := run_copy_cells (P := Tryz.prog) W 41 41 3 23 g 0 4 4 ⟨b, off, none⟩ 4 cap [.int .u64 v0, .int .u64 v1, .int .u64 v2, .int .u64 v3] Tryz.underlying41 (by kernel_rfl) rfl ?_ ?_ ?_ ?_
  · exact this
  · intro j v
    match j, v with
    | 0, _ => intro h; cases h; simpa [Addr.add] using h0
    | 1, _ => intro h; cases h; simpa [Addr.add] using h1
    | 2, _ => intro h; cases h; simpa [Addr.add] using h2
    | 3, _ => intro h; cases h; simpa [Addr.add] using h3
    | (j + 4), _ => intro h; simp at h
  · intro j hj
    match j, hj with
    | 0, _ => simpa using c0
    | 1, _ => simpa using c1
    | 2, _ => simpa using c2
    | 3, _ => simpa using c3
    | (j + 4), h => exact absurd h (by simp only [List.length_cons, List.length_nil]; omega)
  · intro j hj
    match j, hj with
    | 0, _ => simpa using f0
    | 1, _ => simpa using f1
    | 2, _ => simpa using f2
    | 3, _ => simpa using f3
    | (j + 4), h => exact absurd h (by simp only [List.length_cons, List.length_nil]; omega)
  · intro v hv
    simp at hv
    first | (subst hv; rfl) | (rcases hv with rfl | rfl <;> rfl) | (rcases hv with rfl | rfl | rfl <;> rfl) | (rcases hv with rfl | rfl | rfl | rfl <;> rfl)
attribute [local irreducible] W4 Nz Nt
section
variable (n d : Int) (nm : ByteArray) (wd : Int) (f e : Nat) (l m : Int) (w : World) (hT : Tab w)
include hT
set_option maxHeartbeats 1000000 in
theorem rck_e (i0 i3 i4 i5 i6 i7 i8 b E : Int) (i9 : Bool) (hE : (E != 0) = true) (c54 : ∀ W, Tab W → Calls Tryz.prog 54 #[.int .i64 n] W fun r w' => r = .returned (.tuple #[.agg #[.int .i64 i0, .string nm, .int .i64 b, .int .i64 i3, .int .i64 i4, .int .i64 i5, .int .i64 i6, .int .i64 i7, .int .i64 i8, .bool i9], .int .i64 E]) ∧ Below W.heap.size W w') : Calls Tryz.prog 28 #[.int .i64 n, .int .i64 d] w fun r w' => r = .returned (.tuple #[IZ, .int .i64 1]) ∧ Below w.heap.size w w' := by
  have hsm := cell_set_map
  go_enter Tryz.func28, Tryz.ntmps28
  go_wp2_with (first
    | (go_at_call 54; refine (c54 _ (hT.go bgo)).mono ?_; rintro r w1 ⟨rfl, hb1⟩; obtain ⟨hc1, hf1⟩ := bcell hb1; have hz1_0 : w.heap.size < w1.heap.size := lt_below hb1 ltg; have hl1_0 := Nat.le_of_lt hz1_0; have hA1 := bnext (w0 := w) bgo hb1; have hs1 := hA1.size; clear hb1))
  exact bodyPost_ret (v := .tuple #[IZ, .int .i64 1]) (by simp only [results, Tryz.results28]; go_simp) rfl ⟨rfl, bgo⟩
set_option maxHeartbeats 1000000 in
theorem rck_b (i0 i3 i4 i5 i6 i7 i8 b : Int) (i9 : Bool) (hE : (b != 2) = true) (c54 : ∀ W, Tab W → Calls Tryz.prog 54 #[.int .i64 n] W fun r w' => r = .returned (.tuple #[.agg #[.int .i64 i0, .string nm, .int .i64 b, .int .i64 i3, .int .i64 i4, .int .i64 i5, .int .i64 i6, .int .i64 i7, .int .i64 i8, .bool i9], .int .i64 0]) ∧ Below W.heap.size W w') : Calls Tryz.prog 28 #[.int .i64 n, .int .i64 d] w fun r w' => r = .returned (.tuple #[IZ, .int .i64 1]) ∧ Below w.heap.size w w' := by
  have hsm := cell_set_map
  go_enter Tryz.func28, Tryz.ntmps28
  go_wp2_with (first
    | (go_at_call 54; refine (c54 _ (hT.go bgo)).mono ?_; rintro r w1 ⟨rfl, hb1⟩; obtain ⟨hc1, hf1⟩ := bcell hb1; have hz1_0 : w.heap.size < w1.heap.size := lt_below hb1 ltg; have hl1_0 := Nat.le_of_lt hz1_0; have hA1 := bnext (w0 := w) bgo hb1; have hs1 := hA1.size; clear hb1))
  exact bodyPost_ret (v := .tuple #[IZ, .int .i64 1]) (by simp only [results, Tryz.results28]; go_simp) rfl ⟨rfl, bgo⟩
variable (c54 : ∀ W, Tab W → Calls Tryz.prog 54 #[.int .i64 n] W fun r w' => r = .returned (.tuple #[DI n nm wd f e l m, .int .i64 0]) ∧ Below W.heap.size W w')
include c54
set_option maxHeartbeats 1000000 in
theorem rck_d (hd : decide (knB d) = false) : Calls Tryz.prog 28 #[.int .i64 n, .int .i64 d] w fun r w' => r = .returned (.tuple #[IZ, .int .i64 1]) ∧ Below w.heap.size w w' := by
  have hsm := cell_set_map
  have c55 := known_any d
  rw [hd] at c55
  go_enter Tryz.func28, Tryz.ntmps28
  go_wp2_with (first
    | (go_at_call 54; refine (c54 _ (hT.go bgo)).mono ?_; rintro r w1 ⟨rfl, hb1⟩; obtain ⟨hc1, hf1⟩ := bcell hb1; have hz1_0 : w.heap.size < w1.heap.size := lt_below hb1 ltg; have hl1_0 := Nat.le_of_lt hz1_0; have hA1 := bnext (w0 := w) bgo hb1; have hs1 := hA1.size; clear hb1)
    | (go_at_call 55; refine (c55 _).mono ?_; rintro r w2 ⟨rfl, rfl⟩))
  exact bodyPost_ret (v := .tuple #[IZ, .int .i64 1]) (by simp only [results, Tryz.results28]; go_simp) rfl ⟨rfl, bgo⟩
set_option maxHeartbeats 1000000 in
theorem rck_k (hd : decide (knB d) = true) : Calls Tryz.prog 28 #[.int .i64 n, .int .i64 d] w fun r w' => r = .returned (.tuple #[DI n nm wd f e l m, .int .i64 0]) ∧ Below w.heap.size w w' := by
  have hsm := cell_set_map
  have c55 := known_any d
  rw [hd] at c55
  go_enter Tryz.func28, Tryz.ntmps28
  go_wp2_with (first
    | (go_at_call 54; refine (c54 _ (hT.go bgo)).mono ?_; rintro r w1 ⟨rfl, hb1⟩; obtain ⟨hc1, hf1⟩ := bcell hb1; have hz1_0 : w.heap.size < w1.heap.size := lt_below hb1 ltg; have hl1_0 := Nat.le_of_lt hz1_0; have hA1 := bnext (w0 := w) bgo hb1; have hs1 := hA1.size; clear hb1)
    | (go_at_call 55; refine (c55 _).mono ?_; rintro r w2 ⟨rfl, rfl⟩))
  exact bodyPost_ret (v := .tuple #[DI n nm wd f e l m, .int .i64 0]) (by simp only [results, Tryz.results28]; go_simp) rfl ⟨rfl, bgo⟩
end
theorem rck_bad (n d : Int) (w : World) (hT : Tab w) (h : ¬ (binN n ∧ knB d)) : Calls Tryz.prog 28 #[.int .i64 n, .int .i64 d] w fun r w' => r = .returned (.tuple #[IZ, .int .i64 1]) ∧ Below w.heap.size w w' := by
  by_cases hb : binN n
  · exact rck_d n d _ _ _ _ _ _ w hT (fun W hT' => dof_bin hb W hT') (decide_eq_false fun hk => h ⟨hb, hk⟩)
  · have hc := fun W' (hT' : Tab W') => ofv_any n W' hT'
    rcases not_bin hb with ⟨hok, hb10⟩ | hok
    · rw [show infoE n = 0 from if_pos hok, hb10] at hc
      exact rck_b n d _ w hT _ _ _ _ _ _ _ 10 _ (by decide) hc
    · rw [show infoE n = 1 from if_neg hok] at hc
      exact rck_e n d _ w hT _ _ _ _ _ _ _ _ 1 _ (by decide) hc
theorem rck_good (n d : Int) (w : World) (hT : Tab w) (h : binN n ∧ knB d) : Calls Tryz.prog 28 #[.int .i64 n, .int .i64 d] w fun r w' => r = .returned (.tuple #[DI n (nameN n) (widthN n) (fN n) (eN n) (leastN n) (mostN n), .int .i64 0]) ∧ Below w.heap.size w w' :=
  rck_k n d _ _ _ _ _ _ w hT (fun W hT' => dof_bin h.1 W hT') (decide_eq_true h.2)
set_option maxHeartbeats 1000000 in
theorem within8 (c : Int) (s g : Bool) (d : List UInt8) (e : Int) (w : World) (hd : d.length ≤ 4000) : Calls Tryz.prog 65 #[PV c s g d e] w fun r w' => r = .returned (.int .i64 (pwE d.length e)) ∧ Below w.heap.size w w' := by
  have hsl : ((B d).size : Int) ≤ 4000 := by rw [B_size]; omega
  have HE : Hid (pwE d.length e = min (max e (-6000 - ((B d).size : Int))) (6000 - ((B d).size : Int))) := rfl
  have hsm := cell_set_map
  unfold PV
  go_enter Tryz.func65, Tryz.ntmps65
  go_wp2
  go_ret
  exact ⟨by rw [HE.out]; rfl, bgo⟩
/-- the number of digits -/
def dV (l : List UInt8) : Nat := (numV (B l) (B l).size).toNat
theorem sb_by (l : List UInt8) (i : Nat) : sb (B l) i = by_ l i := by
  unfold sb by_
  by_cases h : i < l.length
  · rw [dif_pos (show i < (B l).size from h), dif_pos h, B_get]
  · rw [dif_neg (show ¬ i < (B l).size from h), dif_neg h]
theorem dig_B {l : List UInt8} (h : l.all dg = true) : digB (B l) (B l).size = true := by
  refine digB_of _ fun k hk => ?_
  rw [sb_by]
  have hk' : k < l.length := hk
  have h1 := List.all_eq_true.1 h (l[k]'hk') (List.getElem_mem hk')
  unfold dg at h1
  unfold by_
  rw [dif_pos hk']
  have := of_decide_eq_true h1
  omega
theorem dV_lt {l : List UInt8} (h : l.all dg = true) : dV l < 10 ^ l.length ∧ (dV l : Int) = numV (B l) (B l).size := by
  obtain ⟨a, b⟩ := numV_bd _ (dig_B h)
  unfold dV
  generalize numV (B l) (B l).size = V at *
  rw [B_size] at b
  have : ((10 : Int) ^ l.length) = ((10 ^ l.length : Nat) : Int) := by simp
  rw [this] at b
  exact ⟨by omega, by omega⟩
theorem num_zero (l : List UInt8) : numV (B (48 :: l)) (B (48 :: l)).size = numV (B l) (B l).size := by
  have h := numV_app (s := B (48 :: l)) (u := B l) 1 (B l).size (fun i hi => by rw [sb_by, sb_by, Nat.add_comm, by_succ])
  have hs : (B (48 :: l)).size = 1 + (B l).size := by rw [B_size, B_size, List.length_cons]; omega
  rw [hs, h]
  have h1 : numV (B (48 :: l)) 1 = 0 := by
    have : numV (B (48 :: l)) 1 = numV (B (48 :: l)) 0 * 10 + (sb (B (48 :: l)) 0 - 48) := rfl
    rw [this, sb_by, by_zero]; rfl
  rw [h1]; omega
theorem bl_10 {A L k : Nat} (h : A < 10 ^ L) (hk : 4 * L ≤ k) : bl A ≤ k := by
  refine bl_le.2 (Nat.lt_of_lt_of_le h ?_)
  have h1 : 10 ^ L ≤ 16 ^ L := Nat.pow_le_pow_left (by decide) L
  have h2 : (16 : Nat) ^ L = 2 ^ (4 * L) := by rw [Nat.pow_mul]
  exact Nat.le_trans h1 (h2 ▸ Nat.pow_le_pow_right (by decide) hk)
theorem nz_of {a : Option Addr} {k cap K V : Nat} {z : Nat → Int} {w : World} (h : Num w a k cap z) (hv : val z k = (V : Int)) (hs : sizeL z k = k) (hb : bl V ≤ 64 * K) : Nz K V (.slice a k cap) w := by
  unfold Nz
  exact ⟨a, k, cap, z, rfl, by have := (size_bl (m := K) h.2.2.1 hv).2 hb; omega, h, hv, hs⟩
set_option maxHeartbeats 1000000 in
theorem natural8 (l : List UInt8) (w : World) (hd : l.all dg = true) (hl : l.length ≤ 4000) : Calls Tryz.prog 66 #[.string (B l)] w fun r w' => ∃ v, r = .returned v ∧ Nz 251 (dV l) v w' ∧ Below w.heap.size w w' := by
  have h48 : (48 :: l).all dg = true := by rw [List.all_cons, hd]; rfl
  have c100 := nread_ok (B (48 :: l)) w (by unfold isDigB; rw [dig_B h48]; simp [B_size]) (by rw [B_size, List.length_cons]; omega)
  rw [num_zero] at c100
  obtain ⟨hlt, he⟩ := dV_lt hd
  rw [← he] at c100
  have hbl : bl (dV l) ≤ 64 * 251 := bl_10 hlt (by omega)
  have eB : (⟨#[48]⟩ : ByteArray) ++ B l = B (48 :: l) := B_app [48] l
  have hsz : (B l).size ≤ 4000 := by rw [B_size]; exact hl
  have hs2 : ((B (48 :: l)).size : Int) ≤ 9223372036854775807 := by rw [B_size, List.length_cons]; omega
  generalize dV l = A at *
  rw [← eB] at c100 hs2
  clear hd h48 hlt he eB
  go_enter Tryz.func66, Tryz.ntmps66
  go_wp2_with (go_at_call 100; refine c100.mono ?_; rintro e w1 ⟨o, k, cap, z, rfl, hk, hN, hv, hs, hB⟩)
  go_ret
  exact ⟨_, rfl, nz_of hN hv hs hbl, hB⟩
end Go.Proofs.YtecoajeejombbaaGreatDoor
