/-
  Texts that the proof leans on, joined: Te, Tc.
-/
import Derived.Test.YthcndcanahhbcaaDoorJ11
import Derived.Test.YthcndcanahhbcaaDoorJ12
/-
  A greater fraction is rounded to no less a number: the plain mathematics.
-/
set_option linter.unusedVariables false
set_option linter.unusedSectionVars false
set_option linter.unusedSimpArgs false
set_option maxRecDepth 20000
namespace Go.Proofs.YthcndcanahhbcaaDoor
open Go.RowKit

theorem fa_mono {d : Int} {s o : Bool} {R1 R2 D : Nat} (h : R1 ≤ R2) (hf : faB d s o R1 D = true) : faB d s o R2 D = true := by
  unfold faB at hf ⊢
  by_cases h1 : R1 = 0
  · rw [if_pos h1] at hf; cases hf
  · rw [if_neg h1] at hf
    rw [if_neg (by omega)]
    by_cases h0 : d = 0
    · rw [if_pos h0] at hf ⊢
      simp only [Bool.or_eq_true, Bool.and_eq_true, decide_eq_true_eq] at hf ⊢
      rcases hf with hf | ⟨hf, ho⟩
      · left; omega
      · by_cases e : R2 + R2 = D
        · exact Or.inr ⟨e, ho⟩
        · left; omega
    · rw [if_neg h0] at hf ⊢
      by_cases h2 : d = 1
      · rw [if_pos h2] at hf ⊢
        simp only [decide_eq_true_eq] at hf ⊢
        omega
      · rw [if_neg h2] at hf ⊢; exact hf
theorem nrC_mono {d : Int} {s : Bool} {N1 N2 D : Nat} {k : Int} (h : N1 ≤ N2) (hD : D ≠ 0) : nrC d s N1 D k ≤ nrC d s N2 D k := by
  have hB : 0 < D * 2 ^ (-k).toNat := Nat.mul_pos (Nat.pos_of_ne_zero hD) (Nat.two_pow_pos _)
  have hA : N1 * 2 ^ k.toNat ≤ N2 * 2 ^ k.toNat := Nat.mul_le_mul_right _ h
  unfold nrC nrF nrQ nrR
  generalize N1 * 2 ^ k.toNat = A1 at *
  generalize N2 * 2 ^ k.toNat = A2 at *
  generalize D * 2 ^ (-k).toNat = M at *
  have hq : A1 / M ≤ A2 / M := Nat.div_le_div_right hA
  rcases Nat.lt_or_ge (A1 / M) (A2 / M) with h1 | h1
  · split <;> split <;> omega
  · have e : A1 / M = A2 / M := by omega
    have d1 := Nat.div_add_mod A1 M
    have d2 := Nat.div_add_mod A2 M
    rw [e] at d1 ⊢
    have hr : A1 % M ≤ A2 % M := by omega
    by_cases hf : faB d s (decide (A2 / M % 2 = 1)) (A1 % M) M = true
    · rw [if_pos hf, if_pos (fa_mono hr hf)]; exact Nat.le_refl _
    · rw [if_neg hf]; split <;> omega
theorem ld_mono {N1 N2 D : Nat} (h : N1 ≤ N2) (h1 : N1 ≠ 0) (hD : D ≠ 0) : ld N1 D ≤ ld N2 D := by
  have h2 : N2 ≠ 0 := by omega
  obtain ⟨K, hK⟩ : ∃ K : Nat, K = bl D + 2 + bl N1 + bl N2 := ⟨_, rfl⟩
  have b1 := (ld_bd h1 hD K (by omega)).1
  have b2 := (ld_bd h2 hD K (by omega)).2
  have hc : N1 * 2 ^ K ≤ N2 * 2 ^ K := Nat.mul_le_mul_right _ h
  have hlt : D * 2 ^ ((K : Int) + ld N1 D).toNat < D * 2 ^ ((K : Int) + ld N2 D + 1).toNat := by omega
  have := (Nat.pow_lt_pow_iff_right (by decide : 1 < 2)).1 (Nat.lt_of_mul_lt_mul_left hlt)
  have hl1 : (bl N1 : Int) - bl D - 1 ≤ ld N1 D := by unfold ld; dsimp only; split <;> omega
  have hl2 : (bl N2 : Int) - bl D - 1 ≤ ld N2 D := by unfold ld; dsimp only; split <;> omega
  omega
/-- what lies below a quarter -/
def tnB (d : Int) (s : Bool) : Bool := if d = 0 ∨ d = 1 then false else inB d s
theorem nr_tiny {d : Int} {s : Bool} {N D : Nat} {k : Int} (hN : N ≠ 0) (hD : D ≠ 0) (h : ld N D + k ≤ -2) : nrQ N D k = 0 ∧ nrF d s N D k = tnB d s ∧ nrR N D k ≠ 0 := by
  have key : N * 2 * 2 ^ k.toNat < D * 2 ^ (-k).toNat := by
    obtain ⟨K, hK⟩ : ∃ K : Nat, K = bl D + 1 + k.natAbs := ⟨_, rfl⟩
    obtain ⟨K1, hK1⟩ : ∃ K1 : Nat, (K1 : Int) = (K : Int) + k := ⟨((K : Int) + k).toNat, by omega⟩
    have key := cmp_sc (N * 2) D k K (by omega)
    rw [show ((K : Int) + k).toNat = K1 by omega] at key
    have hb := (ld_bd hN hD K1 (by omega)).2
    have hl1 : -(bl D : Int) ≤ ld N D := by
      have := (bl_bd hN).2.2
      unfold ld; dsimp only; split <;> omega
    refine key.2 ?_
    have h2 : D * 2 ^ (((K1 : Int) + ld N D + 1).toNat + 1) ≤ D * 2 ^ K := Nat.mul_le_mul_left _ (Nat.pow_le_pow_right (by decide) (by omega))
    rw [Nat.pow_succ, ← Nat.mul_assoc] at h2
    rw [Nat.mul_right_comm]
    omega
  have hA : N * 2 ^ k.toNat ≠ 0 := Nat.mul_ne_zero hN (Nat.pos_iff_ne_zero.1 (Nat.two_pow_pos _))
  rw [Nat.mul_right_comm] at key
  unfold nrF nrQ nrR
  generalize N * 2 ^ k.toNat = A at *
  generalize D * 2 ^ (-k).toNat = M at *
  have e1 : A / M = 0 := Nat.div_eq_of_lt (by omega)
  have e2 : A % M = A := Nat.mod_eq_of_lt (by omega)
  rw [e1, e2]
  refine ⟨rfl, ?_, hA⟩
  unfold faB tnB
  rw [if_neg hA]
  by_cases h0 : d = 0
  · rw [if_pos h0, if_pos (Or.inl h0), decide_eq_false (by omega), decide_eq_false (by omega)]; rfl
  · rw [if_neg h0]
    by_cases h1 : d = 1
    · rw [if_pos h1, if_pos (Or.inr h1), decide_eq_false (by omega)]
    · rw [if_neg h1, if_neg (by omega)]
theorem cap_top (T : Nat) (i : Bool) (p q : Nat) (h : T ≤ q) : capV T i p ≤ capV T i q := by
  unfold capV
  rw [if_pos h]
  split
  · exact Nat.le_refl _
  · split <;> omega
theorem cap_mono (T : Nat) (i : Bool) {p q : Nat} (h : p ≤ q) : capV T i p ≤ capV T i q := by
  by_cases hq : T ≤ q
  · exact cap_top T i p q hq
  · unfold capV; rw [if_neg hq, if_neg (by omega)]; exact h
theorem rd_mono {n : Int} (d : Int) (N1 N2 : Nat) {D : Nat} (x : Int) (hb : binN n) (hD : D ≠ 0) (h : N1 ≤ N2) : rdV n d false N1 D x ≤ rdV n d false N2 D x := by
  by_cases h1 : N1 = 0
  · subst h1
    rw [(r_zero d false D x hb).1]
    unfold sgN; simp
  · have h2 : N2 ≠ 0 := by omega
    rw [r_pat d false x hb h1 hD, r_pat d false x hb h2 hD]
    refine Nat.add_le_add_right ?_ _
    have hL := ld_mono h h1 hD
    obtain ⟨a1, a2, a3, _⟩ := r_coef d false x hb h1 hD
    obtain ⟨b1, b2, b3, _⟩ := r_coef d false x hb h2 hD
    have hF := bin_fm hb
    have hp := pow_e hF.e2 hF.e15
    have hm := hF.m
    have hpc : ((2 : Int) ^ eN n) = ((2 ^ eN n : Nat) : Int) := by simp
    rw [hpc] at hp hm
    have hq : rQ n N1 D x ≤ rQ n N2 D x := by unfold rQ rX wiZ; omega
    have hFp : 0 < 2 ^ fN n := Nat.two_pow_pos _
    rw [show 2 ^ (fN n + 1) = 2 ^ fN n + 2 ^ fN n by rw [Nat.pow_succ]; omega] at a2 b2
    by_cases htop : mostN n < rQ n N2 D x
    · refine cap_top _ _ _ _ ?_
      have hC := b3 (by omega)
      unfold tpN rP
      have : (2 ^ eN n - 1) * 2 ^ fN n ≤ ((rQ n N2 D x - leastN n).toNat + 1) * 2 ^ fN n := Nat.mul_le_mul_right _ (by omega)
      rw [Nat.add_mul] at this
      omega
    · refine cap_mono _ _ ?_
      unfold rP
      rcases Int.lt_or_le (rQ n N1 D x) (rQ n N2 D x) with hlt | hge
      · have hC := b3 (by omega)
        have : ((rQ n N1 D x - leastN n).toNat + 1) * 2 ^ fN n ≤ (rQ n N2 D x - leastN n).toNat * 2 ^ fN n := Nat.mul_le_mul_right _ (by omega)
        rw [Nat.add_mul] at this
        omega
      · have he : rQ n N1 D x = rQ n N2 D x := by omega
        rw [he]
        refine Nat.add_le_add_left ?_ _
        by_cases hX : rX n N1 D x = rX n N2 D x
        · unfold rC; rw [he, hX]; exact nrC_mono h hD
        · -- the first one lies below a quarter of the unit
          have hlow : ld N1 D + rX n N1 D x = leastN n - 2 := by
            unfold rX wiZ at hX ⊢
            unfold rQ rX wiZ at htop
            omega
          have hQ1 : rQ n N1 D x = leastN n := by unfold rQ; omega
          have t1 := nr_tiny (d := d) (s := false) h1 hD (k := rX n N1 D x - rQ n N1 D x) (by omega)
          have e1 : rC n d false N1 D x = if tnB d false then 1 else 0 := by
            unfold rC nrC; rw [t1.1, t1.2.1]
          rw [e1]
          by_cases ht : tnB d false = true
          · rw [if_pos ht]
            have hin : inB d false = true ∧ d ≠ 0 ∧ d ≠ 1 := by
              unfold tnB at ht
              split at ht
              · cases ht
              · rename_i hh; exact ⟨ht, by omega, by omega⟩
            unfold rC nrC
            by_cases hz : nrQ N2 D (rX n N2 D x - rQ n N2 D x) = 0
            · have hr : nrR N2 D (rX n N2 D x - rQ n N2 D x) ≠ 0 := by
                intro hr
                have := Nat.div_add_mod (N2 * 2 ^ (rX n N2 D x - rQ n N2 D x).toNat) (D * 2 ^ (-(rX n N2 D x - rQ n N2 D x)).toNat)
                unfold nrQ at hz
                unfold nrR at hr
                rw [hz, hr] at this
                have h3 : N2 * 2 ^ (rX n N2 D x - rQ n N2 D x).toNat ≠ 0 := Nat.mul_ne_zero h2 (Nat.pos_iff_ne_zero.1 (Nat.two_pow_pos _))
                simp at this
                omega
              have : nrF d false N2 D (rX n N2 D x - rQ n N2 D x) = true := by
                unfold nrF faB
                rw [if_neg hr, if_neg hin.2.1, if_neg hin.2.2, hin.1]
              rw [if_pos this]; omega
            · split <;> omega
          · rw [if_neg ht]; omega
end Go.Proofs.YthcndcanahhbcaaDoor

/-
  What the law RoundTurns does: it returns true.
-/
set_option linter.unusedVariables false
set_option linter.unusedSectionVars false
set_option linter.unusedSimpArgs false
set_option maxRecDepth 20000
namespace Go.Proofs.YthcndcanahhbcaaDoor
open Go.RowKit

theorem A4_self (B : Nat) (w : World) : Sem.run Tryd.prog (Op.equalIn 10000 27 (A4 B) (A4 B)) w = .ok true w := by
  have := eq24 (W4 B 0) (W4 B 1) (W4 B 2) (W4 B 3) (W4 B 0) (W4 B 1) (W4 B 2) (W4 B 3) w
  rw [decide_eq_true ⟨rfl, rfl, rfl, rfl⟩] at this
  exact this
theorem DV_self (c : Int) (s g : Bool) (x : Int) (k : Nat) (w : World) : Sem.run Tryd.prog (Op.equalIn 10000 35 (DV c s g x k) (DV c s g x k)) w = .ok true w := by
  have := eq27 c c s s g g x x (W4 k 0) (W4 k 1) (W4 k 2) (W4 k 3) (W4 k 0) (W4 k 1) (W4 k 2) (W4 k 3) w
  rw [decide_eq_true ⟨rfl, rfl, rfl, rfl, rfl, rfl, rfl, rfl⟩] at this
  exact this
theorem rnE_turn (n d : Int) (N D : Nat) : rnE n (othD d) N D = rnE n d N D := by
  unfold rnE
  simp only [kn_turn]
/-- a list of words, by its number -/
theorem nt_of {a : Option Addr} {k c : Nat} {z : Nat → Int} {w : World} (h : Num w a k c z) (hk : k ≤ 2001) : Nt 2001 (val z k).toNat (.slice a k c) w :=
  ⟨a, k, c, z, rfl, hk, h, by have := (val_bd h.2.2.1 k).1; omega⟩
attribute [local irreducible] W4 Nt
section
variable (n d x : Int) (a1 a2 : Option Addr) (k1 c1 k2 c2 : Nat) (w : World) (hT : Tab w) (hc1 : (c1 : Int) ≤ 9223372036854775807) (hc2 : (c2 : Int) ≤ 9223372036854775807) (hk1 : k1 ≤ c1) (hk2 : k2 ≤ c2)
include hT hc1 hc2 hk1 hk2
set_option maxHeartbeats 2000000 in
theorem turns_long (h : 100 < k1 ∨ 100 < k2) :
    Calls Tryd.prog 7 #[.int .i64 n, .int .i64 d, .slice a1 k1 c1, .slice a2 k2 c2, .int .i64 x] w fun r w' => r = .returned (.bool true) ∧ Below w.heap.size w w' := by
  have c9 := awake6
  have hB : Below w.heap.size w w := Below.refl _ _
  by_cases h1 : 100 < k1
  · have i1 : (100 : Int) < k1 := by omega
    go_enter Tryd.func7, Tryd.ntmps7
    go_wp2_with (first | (go_at_call 9; refine (c9 _ (hT.go hB)).mono ?_; rintro r w1 ⟨rfl, hb1⟩; replace hB := bnext hB hb1; clear hb1))
    go_ret
    exact ⟨rfl, hB⟩
  · have i1 : (k1 : Int) ≤ 100 := by omega
    have i2 : (100 : Int) < k2 := by omega
    go_enter Tryd.func7, Tryd.ntmps7
    go_wp2_with (first | (go_at_call 9; refine (c9 _ (hT.go hB)).mono ?_; rintro r w1 ⟨rfl, hb1⟩; replace hB := bnext hB hb1; clear hb1))
    go_ret
    exact ⟨rfl, hB⟩
variable (i1 : (k1 : Int) ≤ 100) (i2 : (k2 : Int) ≤ 100) (d' : Int) (hd' : d' = othD d) (V V' : Nat) (F : Int)
include i1 i2 hd'
set_option maxHeartbeats 2000000 in
theorem turns_e (E : Int) (hE : (E != 0) = true)
    (c11 : ∀ W, Below w.heap.size w W → Calls Tryd.prog 11 #[.int .i64 n, .int .i64 d, .bool false, .slice a1 k1 c1, .slice a2 k2 c2, .int .i64 x] W fun r w' => r = .returned (.tuple #[A4 V, .int .i64 F, .int .i64 E]) ∧ Below W.heap.size W w')
    (c11t : ∀ W, Below w.heap.size w W → Calls Tryd.prog 11 #[.int .i64 n, .int .i64 d', .bool true, .slice a1 k1 c1, .slice a2 k2 c2, .int .i64 x] W fun r w' => r = .returned (.tuple #[A4 V', .int .i64 F, .int .i64 E]) ∧ Below W.heap.size W w') :
    Calls Tryd.prog 7 #[.int .i64 n, .int .i64 d, .slice a1 k1 c1, .slice a2 k2 c2, .int .i64 x] w fun r w' => r = .returned (.bool true) ∧ Below w.heap.size w w' := by
  have c9 := awake6
  have key : ∀ (hd : d = 3 ∨ d = 4 ∨ (d ≠ 3 ∧ d ≠ 4)), Calls Tryd.prog 7 #[.int .i64 n, .int .i64 d, .slice a1 k1 c1, .slice a2 k2 c2, .int .i64 x] w fun r w' => r = .returned (.bool true) ∧ Below w.heap.size w w' := by
    intro hd
    unfold othD at hd'
    rcases hd with rfl | rfl | ⟨h3, h4⟩
    · rw [if_pos (Or.inl rfl)] at hd'
      have e : d' = 4 := hd'
      clear hd'
      subst e
      go_enter Tryd.func7, Tryd.ntmps7
      go_wp2_with (first | (go_at_call 9; refine (c9 _ (hT.go (by (repeat (first | with_reducible assumption | with_reducible exact Below.refl _ _ | with_reducible refine Below.setCell ?_ (by first | omega | (dsimp only; omega) | (simp <;> omega)) _ | with_reducible refine Below.alloc ?_ (by first | omega | (simp <;> omega)) _ | with_reducible refine Below.drew ?_))))).mono ?_; rintro x w1 ⟨rfl, hb1⟩; obtain ⟨hc1, hf1⟩ := bcell hb1; have hA1 := bnext (w0 := w) (by (repeat (first | with_reducible assumption | with_reducible exact Below.refl _ _ | with_reducible refine Below.setCell ?_ (by first | omega | (dsimp only; omega) | (simp <;> omega)) _ | with_reducible refine Below.alloc ?_ (by first | omega | (simp <;> omega)) _ | with_reducible refine Below.drew ?_))) hb1; have hs1 := hA1.size; clear hb1) | (go_at_call 11; refine (c11 _ (by (repeat (first | with_reducible assumption | with_reducible exact Below.refl _ _ | with_reducible refine Below.setCell ?_ (by first | omega | (dsimp only; omega) | (simp <;> omega)) _ | with_reducible refine Below.alloc ?_ (by first | omega | (simp <;> omega)) _ | with_reducible refine Below.drew ?_)))).mono ?_; rintro r w2 ⟨rfl, hb2⟩; clear c11; obtain ⟨hc2, hf2⟩ := bcell hb2; have hA2 := bnext (w0 := w) (by (repeat (first | with_reducible assumption | with_reducible exact Below.refl _ _ | with_reducible refine Below.setCell ?_ (by first | omega | (dsimp only; omega) | (simp <;> omega)) _ | with_reducible refine Below.alloc ?_ (by first | omega | (simp <;> omega)) _ | with_reducible refine Below.drew ?_))) hb2; have hs2 := hA2.size; clear hb2))
      go_wp2_with (first | (go_at_call 11; refine (c11t _ (by (repeat (first | with_reducible assumption | with_reducible exact Below.refl _ _ | with_reducible refine Below.setCell ?_ (by first | omega | (dsimp only; omega) | (simp <;> omega)) _ | with_reducible refine Below.alloc ?_ (by first | omega | (simp <;> omega)) _ | with_reducible refine Below.drew ?_)))).mono ?_; rintro x w3 ⟨rfl, hb3⟩; obtain ⟨hc3, hf3⟩ := bcell hb3; have hz3_0 : w2.heap.size < w3.heap.size := lt_below hb3 (by first | with_reducible assumption | (simp; done) | (simp; omega)); have hl3_0 := Nat.le_of_lt hz3_0; have hA3 := bnext (w0 := w) (by (repeat (first | with_reducible assumption | with_reducible exact Below.refl _ _ | with_reducible refine Below.setCell ?_ (by first | omega | (dsimp only; omega) | (simp <;> omega)) _ | with_reducible refine Below.alloc ?_ (by first | omega | (simp <;> omega)) _ | with_reducible refine Below.drew ?_))) hb3; have hs3 := hA3.size; clear hb3))
      go_ret
      exact ⟨rfl, by (repeat (first | with_reducible assumption | with_reducible exact Below.refl _ _ | with_reducible refine Below.setCell ?_ (by first | omega | (dsimp only; omega) | (simp <;> omega)) _ | with_reducible refine Below.alloc ?_ (by first | omega | (simp <;> omega)) _ | with_reducible refine Below.drew ?_))⟩
    · rw [if_pos (Or.inr rfl)] at hd'
      have e : d' = 3 := hd'
      clear hd'
      subst e
      go_enter Tryd.func7, Tryd.ntmps7
      go_wp2_with (first | (go_at_call 9; refine (c9 _ (hT.go (by (repeat (first | with_reducible assumption | with_reducible exact Below.refl _ _ | with_reducible refine Below.setCell ?_ (by first | omega | (dsimp only; omega) | (simp <;> omega)) _ | with_reducible refine Below.alloc ?_ (by first | omega | (simp <;> omega)) _ | with_reducible refine Below.drew ?_))))).mono ?_; rintro x w1 ⟨rfl, hb1⟩; obtain ⟨hc1, hf1⟩ := bcell hb1; have hA1 := bnext (w0 := w) (by (repeat (first | with_reducible assumption | with_reducible exact Below.refl _ _ | with_reducible refine Below.setCell ?_ (by first | omega | (dsimp only; omega) | (simp <;> omega)) _ | with_reducible refine Below.alloc ?_ (by first | omega | (simp <;> omega)) _ | with_reducible refine Below.drew ?_))) hb1; have hs1 := hA1.size; clear hb1) | (go_at_call 11; refine (c11 _ (by (repeat (first | with_reducible assumption | with_reducible exact Below.refl _ _ | with_reducible refine Below.setCell ?_ (by first | omega | (dsimp only; omega) | (simp <;> omega)) _ | with_reducible refine Below.alloc ?_ (by first | omega | (simp <;> omega)) _ | with_reducible refine Below.drew ?_)))).mono ?_; rintro r w2 ⟨rfl, hb2⟩; clear c11; obtain ⟨hc2, hf2⟩ := bcell hb2; have hA2 := bnext (w0 := w) (by (repeat (first | with_reducible assumption | with_reducible exact Below.refl _ _ | with_reducible refine Below.setCell ?_ (by first | omega | (dsimp only; omega) | (simp <;> omega)) _ | with_reducible refine Below.alloc ?_ (by first | omega | (simp <;> omega)) _ | with_reducible refine Below.drew ?_))) hb2; have hs2 := hA2.size; clear hb2))
      go_wp2_with (first | (go_at_call 11; refine (c11t _ (by (repeat (first | with_reducible assumption | with_reducible exact Below.refl _ _ | with_reducible refine Below.setCell ?_ (by first | omega | (dsimp only; omega) | (simp <;> omega)) _ | with_reducible refine Below.alloc ?_ (by first | omega | (simp <;> omega)) _ | with_reducible refine Below.drew ?_)))).mono ?_; rintro x w3 ⟨rfl, hb3⟩; obtain ⟨hc3, hf3⟩ := bcell hb3; have hz3_0 : w2.heap.size < w3.heap.size := lt_below hb3 (by first | with_reducible assumption | (simp; done) | (simp; omega)); have hl3_0 := Nat.le_of_lt hz3_0; have hA3 := bnext (w0 := w) (by (repeat (first | with_reducible assumption | with_reducible exact Below.refl _ _ | with_reducible refine Below.setCell ?_ (by first | omega | (dsimp only; omega) | (simp <;> omega)) _ | with_reducible refine Below.alloc ?_ (by first | omega | (simp <;> omega)) _ | with_reducible refine Below.drew ?_))) hb3; have hs3 := hA3.size; clear hb3))
      go_ret
      exact ⟨rfl, by (repeat (first | with_reducible assumption | with_reducible exact Below.refl _ _ | with_reducible refine Below.setCell ?_ (by first | omega | (dsimp only; omega) | (simp <;> omega)) _ | with_reducible refine Below.alloc ?_ (by first | omega | (simp <;> omega)) _ | with_reducible refine Below.drew ?_))⟩
    · rw [if_neg (by omega)] at hd'
      subst hd'
      have g3 : (d' == 3) = false := beq_eq_false_iff_ne.2 h3
      have g4 : (d' == 4) = false := beq_eq_false_iff_ne.2 h4
      go_enter Tryd.func7, Tryd.ntmps7
      go_wp2_with (first | (go_at_call 9; refine (c9 _ (hT.go (by (repeat (first | with_reducible assumption | with_reducible exact Below.refl _ _ | with_reducible refine Below.setCell ?_ (by first | omega | (dsimp only; omega) | (simp <;> omega)) _ | with_reducible refine Below.alloc ?_ (by first | omega | (simp <;> omega)) _ | with_reducible refine Below.drew ?_))))).mono ?_; rintro x w1 ⟨rfl, hb1⟩; obtain ⟨hc1, hf1⟩ := bcell hb1; have hA1 := bnext (w0 := w) (by (repeat (first | with_reducible assumption | with_reducible exact Below.refl _ _ | with_reducible refine Below.setCell ?_ (by first | omega | (dsimp only; omega) | (simp <;> omega)) _ | with_reducible refine Below.alloc ?_ (by first | omega | (simp <;> omega)) _ | with_reducible refine Below.drew ?_))) hb1; have hs1 := hA1.size; clear hb1) | (go_at_call 11; refine (c11 _ (by (repeat (first | with_reducible assumption | with_reducible exact Below.refl _ _ | with_reducible refine Below.setCell ?_ (by first | omega | (dsimp only; omega) | (simp <;> omega)) _ | with_reducible refine Below.alloc ?_ (by first | omega | (simp <;> omega)) _ | with_reducible refine Below.drew ?_)))).mono ?_; rintro r w2 ⟨rfl, hb2⟩; clear c11; obtain ⟨hc2, hf2⟩ := bcell hb2; have hA2 := bnext (w0 := w) (by (repeat (first | with_reducible assumption | with_reducible exact Below.refl _ _ | with_reducible refine Below.setCell ?_ (by first | omega | (dsimp only; omega) | (simp <;> omega)) _ | with_reducible refine Below.alloc ?_ (by first | omega | (simp <;> omega)) _ | with_reducible refine Below.drew ?_))) hb2; have hs2 := hA2.size; clear hb2))
      go_wp2_with (first | (go_at_call 11; refine (c11t _ (by (repeat (first | with_reducible assumption | with_reducible exact Below.refl _ _ | with_reducible refine Below.setCell ?_ (by first | omega | (dsimp only; omega) | (simp <;> omega)) _ | with_reducible refine Below.alloc ?_ (by first | omega | (simp <;> omega)) _ | with_reducible refine Below.drew ?_)))).mono ?_; rintro x w3 ⟨rfl, hb3⟩; obtain ⟨hc3, hf3⟩ := bcell hb3; have hz3_0 : w2.heap.size < w3.heap.size := lt_below hb3 (by first | with_reducible assumption | (simp; done) | (simp; omega)); have hl3_0 := Nat.le_of_lt hz3_0; have hA3 := bnext (w0 := w) (by (repeat (first | with_reducible assumption | with_reducible exact Below.refl _ _ | with_reducible refine Below.setCell ?_ (by first | omega | (dsimp only; omega) | (simp <;> omega)) _ | with_reducible refine Below.alloc ?_ (by first | omega | (simp <;> omega)) _ | with_reducible refine Below.drew ?_))) hb3; have hs3 := hA3.size; clear hb3))
      go_ret
      exact ⟨rfl, by (repeat (first | with_reducible assumption | with_reducible exact Below.refl _ _ | with_reducible refine Below.setCell ?_ (by first | omega | (dsimp only; omega) | (simp <;> omega)) _ | with_reducible refine Below.alloc ?_ (by first | omega | (simp <;> omega)) _ | with_reducible refine Below.drew ?_))⟩
  exact key (by omega)
set_option maxHeartbeats 4000000 in
theorem turns_k (Dc Dx : Int) (Dg : Bool) (Dk : Nat)
    (c11 : ∀ W, Below w.heap.size w W → Calls Tryd.prog 11 #[.int .i64 n, .int .i64 d, .bool false, .slice a1 k1 c1, .slice a2 k2 c2, .int .i64 x] W fun r w' => r = .returned (.tuple #[A4 V, .int .i64 F, .int .i64 0]) ∧ Below W.heap.size W w')
    (c11t : ∀ W, Below w.heap.size w W → Calls Tryd.prog 11 #[.int .i64 n, .int .i64 d', .bool true, .slice a1 k1 c1, .slice a2 k2 c2, .int .i64 x] W fun r w' => r = .returned (.tuple #[A4 V', .int .i64 F, .int .i64 0]) ∧ Below W.heap.size W w')
    (c23 : ∀ W, Calls Tryd.prog 23 #[.int .i64 n, A4 V] W fun r w' => r = .returned (.tuple #[DV Dc false Dg Dx Dk, .int .i64 0]) ∧ Below W.heap.size W w')
    (c23t : ∀ W, Calls Tryd.prog 23 #[.int .i64 n, A4 V'] W fun r w' => r = .returned (.tuple #[DV Dc true Dg Dx Dk, .int .i64 0]) ∧ Below W.heap.size W w') :
    Calls Tryd.prog 7 #[.int .i64 n, .int .i64 d, .slice a1 k1 c1, .slice a2 k2 c2, .int .i64 x] w fun r w' => r = .returned (.bool true) ∧ Below w.heap.size w w' := by
  have c9 := awake6
  have h35 := DV_self Dc false Dg Dx Dk
  have hsm := cell_set_map
  have key : ∀ (hd : d = 3 ∨ d = 4 ∨ (d ≠ 3 ∧ d ≠ 4)), Calls Tryd.prog 7 #[.int .i64 n, .int .i64 d, .slice a1 k1 c1, .slice a2 k2 c2, .int .i64 x] w fun r w' => r = .returned (.bool true) ∧ Below w.heap.size w w' := by
    intro hd
    unfold othD at hd'
    rcases hd with rfl | rfl | ⟨h3, h4⟩
    · rw [if_pos (Or.inl rfl)] at hd'
      have e : d' = 4 := hd'
      clear hd'
      subst e
      go_enter Tryd.func7, Tryd.ntmps7
      go_wp2_with (first | (go_at_call 9; refine (c9 _ (hT.go (by (repeat (first | with_reducible assumption | with_reducible exact Below.refl _ _ | with_reducible refine Below.setCell ?_ (by first | omega | (dsimp only; omega) | (simp <;> omega)) _ | with_reducible refine Below.alloc ?_ (by first | omega | (simp <;> omega)) _ | with_reducible refine Below.drew ?_))))).mono ?_; rintro x w1 ⟨rfl, hb1⟩; obtain ⟨hc1, hf1⟩ := bcell hb1; have hA1 := bnext (w0 := w) (by (repeat (first | with_reducible assumption | with_reducible exact Below.refl _ _ | with_reducible refine Below.setCell ?_ (by first | omega | (dsimp only; omega) | (simp <;> omega)) _ | with_reducible refine Below.alloc ?_ (by first | omega | (simp <;> omega)) _ | with_reducible refine Below.drew ?_))) hb1; have hs1 := hA1.size; clear hb1) | (go_at_call 11; refine (c11 _ (by (repeat (first | with_reducible assumption | with_reducible exact Below.refl _ _ | with_reducible refine Below.setCell ?_ (by first | omega | (dsimp only; omega) | (simp <;> omega)) _ | with_reducible refine Below.alloc ?_ (by first | omega | (simp <;> omega)) _ | with_reducible refine Below.drew ?_)))).mono ?_; rintro r w2 ⟨rfl, hb2⟩; clear c11; obtain ⟨hc2, hf2⟩ := bcell hb2; have hA2 := bnext (w0 := w) (by (repeat (first | with_reducible assumption | with_reducible exact Below.refl _ _ | with_reducible refine Below.setCell ?_ (by first | omega | (dsimp only; omega) | (simp <;> omega)) _ | with_reducible refine Below.alloc ?_ (by first | omega | (simp <;> omega)) _ | with_reducible refine Below.drew ?_))) hb2; have hs2 := hA2.size; clear hb2))
      go_wp2_with (first | (go_at_call 11; refine (c11t _ (by (repeat (first | with_reducible assumption | with_reducible exact Below.refl _ _ | with_reducible refine Below.setCell ?_ (by first | omega | (dsimp only; omega) | (simp <;> omega)) _ | with_reducible refine Below.alloc ?_ (by first | omega | (simp <;> omega)) _ | with_reducible refine Below.drew ?_)))).mono ?_; rintro x w3 ⟨rfl, hb3⟩; obtain ⟨hc3, hf3⟩ := bcell hb3; have hz3_0 : w2.heap.size < w3.heap.size := lt_below hb3 (by first | with_reducible assumption | (simp; done) | (simp; omega)); have hl3_0 := Nat.le_of_lt hz3_0; have hA3 := bnext (w0 := w) (by (repeat (first | with_reducible assumption | with_reducible exact Below.refl _ _ | with_reducible refine Below.setCell ?_ (by first | omega | (dsimp only; omega) | (simp <;> omega)) _ | with_reducible refine Below.alloc ?_ (by first | omega | (simp <;> omega)) _ | with_reducible refine Below.drew ?_))) hb3; have hs3 := hA3.size; clear hb3) | (go_at_call 23; refine (c23 _).mono ?_; rintro r w4 ⟨rfl, hb4⟩; clear c23; obtain ⟨hc4, hf4⟩ := bcell hb4; have hz4_0 : w2.heap.size < w4.heap.size := lt_below hb4 (by first | with_reducible assumption | (simp; done) | (simp; omega)); have hl4_0 := Nat.le_of_lt hz4_0; have hz4_1 : w3.heap.size < w4.heap.size := lt_below hb4 (by first | with_reducible assumption | (simp; done) | (simp; omega)); have hl4_1 := Nat.le_of_lt hz4_1; have hA4 := bnext (w0 := w) (by (repeat (first | with_reducible assumption | with_reducible exact Below.refl _ _ | with_reducible refine Below.setCell ?_ (by first | omega | (dsimp only; omega) | (simp <;> omega)) _ | with_reducible refine Below.alloc ?_ (by first | omega | (simp <;> omega)) _ | with_reducible refine Below.drew ?_))) hb4; have hs4 := hA4.size; clear hb4))
      go_wp2_with (first | (go_at_call 23; refine (c23t _).mono ?_; rintro x w5 ⟨rfl, hb5⟩; obtain ⟨hc5, hf5⟩ := bcell hb5; have hz5_0 : w2.heap.size < w5.heap.size := lt_below hb5 (by first | with_reducible assumption | (simp; done) | (simp; omega)); have hl5_0 := Nat.le_of_lt hz5_0; have hz5_1 : w3.heap.size < w5.heap.size := lt_below hb5 (by first | with_reducible assumption | (simp; done) | (simp; omega)); have hl5_1 := Nat.le_of_lt hz5_1; have hz5_2 : w4.heap.size < w5.heap.size := lt_below hb5 (by first | with_reducible assumption | (simp; done) | (simp; omega)); have hl5_2 := Nat.le_of_lt hz5_2; have hA5 := bnext (w0 := w) (by (repeat (first | with_reducible assumption | with_reducible exact Below.refl _ _ | with_reducible refine Below.setCell ?_ (by first | omega | (dsimp only; omega) | (simp <;> omega)) _ | with_reducible refine Below.alloc ?_ (by first | omega | (simp <;> omega)) _ | with_reducible refine Below.drew ?_))) hb5; have hs5 := hA5.size; clear hb5))
      go_ret
      exact ⟨rfl, by (repeat (first | with_reducible assumption | with_reducible exact Below.refl _ _ | with_reducible refine Below.setCell ?_ (by first | omega | (dsimp only; omega) | (simp <;> omega)) _ | with_reducible refine Below.alloc ?_ (by first | omega | (simp <;> omega)) _ | with_reducible refine Below.drew ?_))⟩
    · rw [if_pos (Or.inr rfl)] at hd'
      have e : d' = 3 := hd'
      clear hd'
      subst e
      go_enter Tryd.func7, Tryd.ntmps7
      go_wp2_with (first | (go_at_call 9; refine (c9 _ (hT.go (by (repeat (first | with_reducible assumption | with_reducible exact Below.refl _ _ | with_reducible refine Below.setCell ?_ (by first | omega | (dsimp only; omega) | (simp <;> omega)) _ | with_reducible refine Below.alloc ?_ (by first | omega | (simp <;> omega)) _ | with_reducible refine Below.drew ?_))))).mono ?_; rintro x w1 ⟨rfl, hb1⟩; obtain ⟨hc1, hf1⟩ := bcell hb1; have hA1 := bnext (w0 := w) (by (repeat (first | with_reducible assumption | with_reducible exact Below.refl _ _ | with_reducible refine Below.setCell ?_ (by first | omega | (dsimp only; omega) | (simp <;> omega)) _ | with_reducible refine Below.alloc ?_ (by first | omega | (simp <;> omega)) _ | with_reducible refine Below.drew ?_))) hb1; have hs1 := hA1.size; clear hb1) | (go_at_call 11; refine (c11 _ (by (repeat (first | with_reducible assumption | with_reducible exact Below.refl _ _ | with_reducible refine Below.setCell ?_ (by first | omega | (dsimp only; omega) | (simp <;> omega)) _ | with_reducible refine Below.alloc ?_ (by first | omega | (simp <;> omega)) _ | with_reducible refine Below.drew ?_)))).mono ?_; rintro r w2 ⟨rfl, hb2⟩; clear c11; obtain ⟨hc2, hf2⟩ := bcell hb2; have hA2 := bnext (w0 := w) (by (repeat (first | with_reducible assumption | with_reducible exact Below.refl _ _ | with_reducible refine Below.setCell ?_ (by first | omega | (dsimp only; omega) | (simp <;> omega)) _ | with_reducible refine Below.alloc ?_ (by first | omega | (simp <;> omega)) _ | with_reducible refine Below.drew ?_))) hb2; have hs2 := hA2.size; clear hb2))
      go_wp2_with (first | (go_at_call 11; refine (c11t _ (by (repeat (first | with_reducible assumption | with_reducible exact Below.refl _ _ | with_reducible refine Below.setCell ?_ (by first | omega | (dsimp only; omega) | (simp <;> omega)) _ | with_reducible refine Below.alloc ?_ (by first | omega | (simp <;> omega)) _ | with_reducible refine Below.drew ?_)))).mono ?_; rintro x w3 ⟨rfl, hb3⟩; obtain ⟨hc3, hf3⟩ := bcell hb3; have hz3_0 : w2.heap.size < w3.heap.size := lt_below hb3 (by first | with_reducible assumption | (simp; done) | (simp; omega)); have hl3_0 := Nat.le_of_lt hz3_0; have hA3 := bnext (w0 := w) (by (repeat (first | with_reducible assumption | with_reducible exact Below.refl _ _ | with_reducible refine Below.setCell ?_ (by first | omega | (dsimp only; omega) | (simp <;> omega)) _ | with_reducible refine Below.alloc ?_ (by first | omega | (simp <;> omega)) _ | with_reducible refine Below.drew ?_))) hb3; have hs3 := hA3.size; clear hb3) | (go_at_call 23; refine (c23 _).mono ?_; rintro r w4 ⟨rfl, hb4⟩; clear c23; obtain ⟨hc4, hf4⟩ := bcell hb4; have hz4_0 : w2.heap.size < w4.heap.size := lt_below hb4 (by first | with_reducible assumption | (simp; done) | (simp; omega)); have hl4_0 := Nat.le_of_lt hz4_0; have hz4_1 : w3.heap.size < w4.heap.size := lt_below hb4 (by first | with_reducible assumption | (simp; done) | (simp; omega)); have hl4_1 := Nat.le_of_lt hz4_1; have hA4 := bnext (w0 := w) (by (repeat (first | with_reducible assumption | with_reducible exact Below.refl _ _ | with_reducible refine Below.setCell ?_ (by first | omega | (dsimp only; omega) | (simp <;> omega)) _ | with_reducible refine Below.alloc ?_ (by first | omega | (simp <;> omega)) _ | with_reducible refine Below.drew ?_))) hb4; have hs4 := hA4.size; clear hb4))
      go_wp2_with (first | (go_at_call 23; refine (c23t _).mono ?_; rintro x w5 ⟨rfl, hb5⟩; obtain ⟨hc5, hf5⟩ := bcell hb5; have hz5_0 : w2.heap.size < w5.heap.size := lt_below hb5 (by first | with_reducible assumption | (simp; done) | (simp; omega)); have hl5_0 := Nat.le_of_lt hz5_0; have hz5_1 : w3.heap.size < w5.heap.size := lt_below hb5 (by first | with_reducible assumption | (simp; done) | (simp; omega)); have hl5_1 := Nat.le_of_lt hz5_1; have hz5_2 : w4.heap.size < w5.heap.size := lt_below hb5 (by first | with_reducible assumption | (simp; done) | (simp; omega)); have hl5_2 := Nat.le_of_lt hz5_2; have hA5 := bnext (w0 := w) (by (repeat (first | with_reducible assumption | with_reducible exact Below.refl _ _ | with_reducible refine Below.setCell ?_ (by first | omega | (dsimp only; omega) | (simp <;> omega)) _ | with_reducible refine Below.alloc ?_ (by first | omega | (simp <;> omega)) _ | with_reducible refine Below.drew ?_))) hb5; have hs5 := hA5.size; clear hb5))
      go_ret
      exact ⟨rfl, by (repeat (first | with_reducible assumption | with_reducible exact Below.refl _ _ | with_reducible refine Below.setCell ?_ (by first | omega | (dsimp only; omega) | (simp <;> omega)) _ | with_reducible refine Below.alloc ?_ (by first | omega | (simp <;> omega)) _ | with_reducible refine Below.drew ?_))⟩
    · rw [if_neg (by omega)] at hd'
      subst hd'
      have g3 : (d' == 3) = false := beq_eq_false_iff_ne.2 h3
      have g4 : (d' == 4) = false := beq_eq_false_iff_ne.2 h4
      go_enter Tryd.func7, Tryd.ntmps7
      go_wp2_with (first | (go_at_call 9; refine (c9 _ (hT.go (by (repeat (first | with_reducible assumption | with_reducible exact Below.refl _ _ | with_reducible refine Below.setCell ?_ (by first | omega | (dsimp only; omega) | (simp <;> omega)) _ | with_reducible refine Below.alloc ?_ (by first | omega | (simp <;> omega)) _ | with_reducible refine Below.drew ?_))))).mono ?_; rintro x w1 ⟨rfl, hb1⟩; obtain ⟨hc1, hf1⟩ := bcell hb1; have hA1 := bnext (w0 := w) (by (repeat (first | with_reducible assumption | with_reducible exact Below.refl _ _ | with_reducible refine Below.setCell ?_ (by first | omega | (dsimp only; omega) | (simp <;> omega)) _ | with_reducible refine Below.alloc ?_ (by first | omega | (simp <;> omega)) _ | with_reducible refine Below.drew ?_))) hb1; have hs1 := hA1.size; clear hb1) | (go_at_call 11; refine (c11 _ (by (repeat (first | with_reducible assumption | with_reducible exact Below.refl _ _ | with_reducible refine Below.setCell ?_ (by first | omega | (dsimp only; omega) | (simp <;> omega)) _ | with_reducible refine Below.alloc ?_ (by first | omega | (simp <;> omega)) _ | with_reducible refine Below.drew ?_)))).mono ?_; rintro r w2 ⟨rfl, hb2⟩; clear c11; obtain ⟨hc2, hf2⟩ := bcell hb2; have hA2 := bnext (w0 := w) (by (repeat (first | with_reducible assumption | with_reducible exact Below.refl _ _ | with_reducible refine Below.setCell ?_ (by first | omega | (dsimp only; omega) | (simp <;> omega)) _ | with_reducible refine Below.alloc ?_ (by first | omega | (simp <;> omega)) _ | with_reducible refine Below.drew ?_))) hb2; have hs2 := hA2.size; clear hb2))
      go_wp2_with (first | (go_at_call 11; refine (c11t _ (by (repeat (first | with_reducible assumption | with_reducible exact Below.refl _ _ | with_reducible refine Below.setCell ?_ (by first | omega | (dsimp only; omega) | (simp <;> omega)) _ | with_reducible refine Below.alloc ?_ (by first | omega | (simp <;> omega)) _ | with_reducible refine Below.drew ?_)))).mono ?_; rintro x w3 ⟨rfl, hb3⟩; obtain ⟨hc3, hf3⟩ := bcell hb3; have hz3_0 : w2.heap.size < w3.heap.size := lt_below hb3 (by first | with_reducible assumption | (simp; done) | (simp; omega)); have hl3_0 := Nat.le_of_lt hz3_0; have hA3 := bnext (w0 := w) (by (repeat (first | with_reducible assumption | with_reducible exact Below.refl _ _ | with_reducible refine Below.setCell ?_ (by first | omega | (dsimp only; omega) | (simp <;> omega)) _ | with_reducible refine Below.alloc ?_ (by first | omega | (simp <;> omega)) _ | with_reducible refine Below.drew ?_))) hb3; have hs3 := hA3.size; clear hb3) | (go_at_call 23; refine (c23 _).mono ?_; rintro r w4 ⟨rfl, hb4⟩; clear c23; obtain ⟨hc4, hf4⟩ := bcell hb4; have hz4_0 : w2.heap.size < w4.heap.size := lt_below hb4 (by first | with_reducible assumption | (simp; done) | (simp; omega)); have hl4_0 := Nat.le_of_lt hz4_0; have hz4_1 : w3.heap.size < w4.heap.size := lt_below hb4 (by first | with_reducible assumption | (simp; done) | (simp; omega)); have hl4_1 := Nat.le_of_lt hz4_1; have hA4 := bnext (w0 := w) (by (repeat (first | with_reducible assumption | with_reducible exact Below.refl _ _ | with_reducible refine Below.setCell ?_ (by first | omega | (dsimp only; omega) | (simp <;> omega)) _ | with_reducible refine Below.alloc ?_ (by first | omega | (simp <;> omega)) _ | with_reducible refine Below.drew ?_))) hb4; have hs4 := hA4.size; clear hb4))
      go_wp2_with (first | (go_at_call 23; refine (c23t _).mono ?_; rintro x w5 ⟨rfl, hb5⟩; obtain ⟨hc5, hf5⟩ := bcell hb5; have hz5_0 : w2.heap.size < w5.heap.size := lt_below hb5 (by first | with_reducible assumption | (simp; done) | (simp; omega)); have hl5_0 := Nat.le_of_lt hz5_0; have hz5_1 : w3.heap.size < w5.heap.size := lt_below hb5 (by first | with_reducible assumption | (simp; done) | (simp; omega)); have hl5_1 := Nat.le_of_lt hz5_1; have hz5_2 : w4.heap.size < w5.heap.size := lt_below hb5 (by first | with_reducible assumption | (simp; done) | (simp; omega)); have hl5_2 := Nat.le_of_lt hz5_2; have hA5 := bnext (w0 := w) (by (repeat (first | with_reducible assumption | with_reducible exact Below.refl _ _ | with_reducible refine Below.setCell ?_ (by first | omega | (dsimp only; omega) | (simp <;> omega)) _ | with_reducible refine Below.alloc ?_ (by first | omega | (simp <;> omega)) _ | with_reducible refine Below.drew ?_))) hb5; have hs5 := hA5.size; clear hb5))
      go_ret
      exact ⟨rfl, by (repeat (first | with_reducible assumption | with_reducible exact Below.refl _ _ | with_reducible refine Below.setCell ?_ (by first | omega | (dsimp only; omega) | (simp <;> omega)) _ | with_reducible refine Below.alloc ?_ (by first | omega | (simp <;> omega)) _ | with_reducible refine Below.drew ?_))⟩
  exact key (by omega)
end
theorem roundTurns_any (n d : Int) (a1 : Option Addr) (k1 c1 : Nat) (z1 : Nat → Int) (a2 : Option Addr) (k2 c2 : Nat) (z2 : Nat → Int) (x : Int) (w : World) (hT : Tab w) (h1 : Num w a1 k1 c1 z1) (h2 : Num w a2 k2 c2 z2) :
    Calls Tryd.prog 7 #[.int .i64 n, .int .i64 d, .slice a1 k1 c1, .slice a2 k2 c2, .int .i64 x] w fun r w' => r = .returned (.bool true) ∧ Below w.heap.size w w' := by
  have m1 := h1.2.1
  have m2 := h2.2.1
  unfold maxLen at m1 m2
  by_cases hl : 100 < k1 ∨ 100 < k2
  · exact turns_long n d x a1 a2 k1 c1 k2 c2 w hT (by omega) (by omega) h1.1 h2.1 hl
  · have t1 := nt_of h1 (by omega)
    have t2 := nt_of h2 (by omega)
    generalize (val z1 k1).toNat = N at *
    generalize (val z2 k2).toNat = D at *
    have c11 := fun W (hW : Below w.heap.size w W) => rnd_any n d x false (hT.go hW) (t1.next hW) (t2.next hW)
    have c11t := fun W (hW : Below w.heap.size w W) => rnd_any n (othD d) x true (hT.go hW) (t1.next hW) (t2.next hW)
    rw [rnE_turn] at c11t
    by_cases h0 : rnE n d N D = 0
    · obtain ⟨hb, hk, hD, _, _⟩ := rn_zero h0
      have h0' : rnE n (othD d) N D = 0 := by rw [rnE_turn]; exact h0
      obtain ⟨e1, e2, e3⟩ := rd_turn d N x hb hD
      obtain ⟨g1, g2, Dc, Dg, Dx, Dk, u1, u2⟩ := un_turn hb e3
      rw [← e1] at g2 u2
      unfold rnV rnF at c11 c11t
      rw [h0'] at c11t
      rw [if_pos rfl, if_pos rfl] at c11t
      rw [h0] at c11 c11t
      rw [if_pos rfl, if_pos rfl] at c11
      rw [e2] at c11t
      have c23 := fun W => runpack_any n (rdV n d false N D x) W (good_256 g1)
      have c23t := fun W => runpack_any n (rdV n (othD d) true N D x) W (good_256 g2)
      rw [u1, show unE n (rdV n d false N D x) = 0 from if_pos g1] at c23
      rw [u2, show unE n (rdV n (othD d) true N D x) = 0 from if_pos g2] at c23t
      exact turns_k n d x a1 a2 k1 c1 k2 c2 w hT (by omega) (by omega) h1.1 h2.1 (by omega) (by omega) _ rfl _ _ _ Dc Dx Dg Dk c11 c11t c23 c23t
    · unfold rnV rnF at c11 c11t
      rw [rnE_turn] at c11t
      rw [if_neg h0, if_neg h0] at c11 c11t
      exact turns_e n d x a1 a2 k1 c1 k2 c2 w hT (by omega) (by omega) h1.1 h2.1 (by omega) (by omega) _ rfl 0 0 0 _ (by simpa using h0) c11 c11t
end Go.Proofs.YthcndcanahhbcaaDoor
