/-
  Texts that the proof leans on, joined: Ya, Sn8, Yh.
-/
import Derived.Test.YtpfnfaekgaipjaaGreatDoorJ29
import Derived.Test.YtpfnfaekgaipjaaGreatDoorJ38
import Derived.Test.YtpfnfaekgaipjaaGreatDoorJ40
set_option linter.unusedVariables false
set_option linter.unusedSimpArgs false
set_option linter.unusedSectionVars false
namespace Go.Proofs.YtpfnfaekgaipjaaGreatDoor
open Go.RowKit

theorem ld_sc {N D c : Nat} (hN : N ≠ 0) (hD : D ≠ 0) (hc : 0 < c) : ld (N * c) (D * c) = ld N D := by
  have hNc : N * c ≠ 0 := Nat.mul_ne_zero hN (by omega)
  have hDc : D * c ≠ 0 := Nat.mul_ne_zero hD (by omega)
  obtain ⟨K, hK⟩ : ∃ K : Nat, K = bl D + bl N + bl (D * c) + bl (N * c) + 2 := ⟨_, rfl⟩
  obtain ⟨h1, h2⟩ := ld_bd hN hD K (by omega)
  obtain ⟨g1, g2⟩ := ld_bd hNc hDc K (by omega)
  have l1 : (bl N : Int) - bl D - 1 ≤ ld N D ∧ ld N D ≤ (bl N : Int) - bl D := by unfold ld; dsimp only; split <;> omega
  have l2 : (bl (N * c) : Int) - bl (D * c) - 1 ≤ ld (N * c) (D * c) ∧ ld (N * c) (D * c) ≤ (bl (N * c) : Int) - bl (D * c) := by unfold ld; dsimp only; split <;> omega
  rw [Nat.mul_right_comm D, Nat.mul_right_comm N] at g1 g2
  have g1' := Nat.le_of_mul_le_mul_right g1 hc
  have g2' := Nat.lt_of_mul_lt_mul_right g2
  have a1 := Nat.lt_of_mul_lt_mul_left (Nat.lt_of_le_of_lt h1 g2')
  have a2 := Nat.lt_of_mul_lt_mul_left (Nat.lt_of_le_of_lt g1' h2)
  have b1 := (Nat.pow_lt_pow_iff_right (by decide : 1 < 2)).1 a1
  have b2 := (Nat.pow_lt_pow_iff_right (by decide : 1 < 2)).1 a2
  omega
theorem nr_sc (d : Int) (s : Bool) (N D : Nat) {c : Nat} (hc : 0 < c) (k : Int) : nrC d s (N * c) (D * c) k = nrC d s N D k ∧ (nrR (N * c) (D * c) k = 0 ↔ nrR N D k = 0) := by
  have eq : nrQ (N * c) (D * c) k = nrQ N D k := by
    unfold nrQ
    rw [Nat.mul_right_comm N, Nat.mul_right_comm D, Nat.mul_div_mul_right _ _ hc]
  have er : nrR (N * c) (D * c) k = nrR N D k * c := by
    unfold nrR
    rw [Nat.mul_right_comm N, Nat.mul_right_comm D, Nat.mul_mod_mul_right]
  have ef : nrF d s (N * c) (D * c) k = nrF d s N D k := by
    unfold nrF
    rw [eq, er, Nat.mul_right_comm D, fa_sc d s _ _ _ c hc]
  refine ⟨?_, ?_⟩
  · unfold nrC
    rw [ef, eq]
  · rw [er]
    refine ⟨fun h => ?_, fun h => by rw [h, Nat.zero_mul]⟩
    rcases Nat.mul_eq_zero.1 h with h | h
    · exact h
    · omega
/-- reduced or not, a fraction is rounded alike -/
theorem rd_sc (n d : Int) (s : Bool) (N : Nat) {D c : Nat} (hD : D ≠ 0) (hc : 0 < c) (x : Int) : rdV n d s (N * c) (D * c) x = rdV n d s N D x ∧ rdF n d s (N * c) (D * c) x = rdF n d s N D x := by
  by_cases hN : N = 0
  · subst hN
    rw [Nat.zero_mul]
    exact ⟨by unfold rdV; rw [if_pos rfl, if_pos rfl], by unfold rdF; rw [if_pos rfl, if_pos rfl]⟩
  have hNc : N * c ≠ 0 := Nat.mul_ne_zero hN (by omega)
  have el := ld_sc hN hD hc
  have eX : rX n (N * c) (D * c) x = rX n N D x := by unfold rX; rw [el]
  have eQ : rQ n (N * c) (D * c) x = rQ n N D x := by unfold rQ; rw [el, eX]
  have eC : rC n d s (N * c) (D * c) x = rC n d s N D x := by unfold rC; rw [eX, eQ]; exact (nr_sc d s N D hc _).1
  have eR := (nr_sc d s N D hc (rX n N D x - rQ n N D x)).2
  have eC' : rC' n d s (N * c) (D * c) x = rC' n d s N D x := by unfold rC'; rw [eC]
  have eQ' : rQ' n d s (N * c) (D * c) x = rQ' n d s N D x := by unfold rQ'; rw [eC, eQ]
  refine ⟨?_, ?_⟩
  · unfold rdV
    rw [if_neg hN, if_neg hNc, eC', eQ']
  · unfold rdF
    rw [if_neg hN, if_neg hNc, eQ', eX, eQ, el]
    simp only [eR]

/-- noughts behind the digits, and the exponent less by as many: the same number -/
theorem tn_zeros (n d : Int) (s : Bool) (A z : Nat) (P : Int) : rdV n d s (tN (A * 10 ^ z) (P - z)) (tD (P - z)) (P - z) = rdV n d s (tN A P) (tD P) P ∧ rdF n d s (tN (A * 10 ^ z) (P - z)) (tD (P - z)) (P - z) = rdF n d s (tN A P) (tD P) P := by
  obtain ⟨a1, a2⟩ := ten_shift n d s (A * 10 ^ z) (P - z)
  obtain ⟨b1, b2⟩ := ten_shift n d s A P
  rw [← a1, ← a2, ← b1, ← b2]
  have e1 : A * 10 ^ z * 10 ^ (P - z).toNat = A * 10 ^ P.toNat * 10 ^ (z + (P - z).toNat - P.toNat) := by
    rw [Nat.mul_assoc, Nat.mul_assoc, ← Nat.pow_add, ← Nat.pow_add]
    congr 2
    omega
  have e2 : 10 ^ (-(P - z)).toNat = 10 ^ (-P).toNat * 10 ^ (z + (P - z).toNat - P.toNat) := by
    rw [← Nat.pow_add]
    congr 1
    omega
  rw [e1, e2]
  exact rd_sc n d s _ (Nat.ne_of_gt (Nat.pow_pos (by decide))) (Nat.pow_pos (by decide)) 0

end Go.Proofs.YtpfnfaekgaipjaaGreatDoor

namespace Go.Proofs.YtpfnfaekgaipjaaGreatDoor

theorem rep_all (z : Nat) : (List.replicate z (48 : UInt8)).all dg = true := by
  induction z with
  | zero => rfl
  | succ k ih => rw [List.replicate_succ, List.all_cons, ih]; rfl
theorem dV_rep {T : List UInt8} (hT : T.all dg = true) : ∀ z, dV (T ++ List.replicate z 48) = dV T * 10 ^ z
  | 0 => by simp
  | z + 1 => by
    rw [List.replicate_succ', ← List.append_assoc, dV_snoc (by rw [List.all_append, hT, rep_all]; rfl) (by decide), dV_rep hT z, Nat.pow_succ]
    have : (48 : UInt8).toNat - 48 = 0 := by decide
    rw [this, Nat.add_zero, Nat.mul_comm 10, Nat.mul_assoc]
end Go.Proofs.YtpfnfaekgaipjaaGreatDoor

set_option maxRecDepth 20000
namespace Go.Proofs.YtpfnfaekgaipjaaGreatDoor
open Go.RowKit

theorem mk_zeros (n d : Int) (s : Bool) {D : List UInt8} (hg : D.all dg = true) (e : Int) (z : Nat) :
    mkV n d ⟨1, s, false, D ++ List.replicate z 48, e - z⟩ = mkV n d ⟨1, s, false, D, e⟩ ∧ mkF n d ⟨1, s, false, D ++ List.replicate z 48, e - z⟩ = mkF n d ⟨1, s, false, D, e⟩ := by
  have hl : (D ++ List.replicate z 48).length = D.length + z := by rw [List.length_append, List.length_replicate]
  have hp : pwE (D.length + z) (e - z) = pwE D.length e - z := by unfold pwE; omega
  have e1 : ∀ D' e', mkV n d ⟨1, s, false, D', e'⟩ = rdV n d s (tN (dV D') (pwE D'.length e')) (tD (pwE D'.length e')) (pwE D'.length e') := fun _ _ => if_pos rfl
  have e2 : ∀ D' e', mkF n d ⟨1, s, false, D', e'⟩ = rdF n d s (tN (dV D') (pwE D'.length e')) (tD (pwE D'.length e')) (pwE D'.length e') := fun _ _ => if_pos rfl
  rw [e1, e1, e2, e2, hl, hp, dV_rep hg]
  exact tn_zeros n d s (dV D) z (pwE D.length e)
theorem gd_zeros {D : List UInt8} (hg : gdD D) (hne : D ≠ []) (z : Nat) : gdD (D ++ List.replicate z 48) := by
  rcases hg with h | ⟨h, h0⟩
  · exact absurd h hne
  · refine Or.inr ⟨?_, ?_⟩
    · unfold isd
      rw [List.all_append, isd_all h, rep_all z]
      cases D with
      | nil => exact absurd rfl hne
      | cons y ys => rfl
    · cases D with
      | nil => exact absurd rfl hne
      | cons y ys =>
        rw [List.cons_append, by_zero]
        rw [by_zero] at h0
        exact h0
/-- ReadbinSpelt -/
theorem readbinSpelt_any (n d V ex z : Int) (sg : Bool) (w : World) (hT : Tab w) (hT10 : Tb10 w) (hV : 0 ≤ V ∧ V ≤ 18446744073709551615) (hex : -32768 ≤ ex ∧ ex ≤ 32767) (hz : 0 ≤ z ∧ z ≤ 255) :
    Calls Tryz.prog 4 #[.int .i64 n, .int .i64 d, .int .u64 V, .int .i16 ex, .int .u8 z, .bool sg] w fun r w' => r = .returned (.bool true) ∧ Below w.heap.size w w' := by
  by_cases hb : binN n
  · have c15 := fun W => bin_true hb W
    by_cases hk : knB d
    · have c7 := fun W => dir_true hk W
      obtain ⟨k, hkz⟩ : ∃ k : Nat, z % 30 = (k : Int) := ⟨(z % 30).toNat, by omega⟩
      have hk30 : k < 30 := by omega
      obtain ⟨m, rfl⟩ : ∃ m : Nat, V = (m : Int) := ⟨V.toNat, by omega⟩
      have hm : m < 2 ^ 256 := Nat.lt_of_lt_of_le (show m < 2 ^ 64 by omega) (by decide)
      obtain ⟨d1, d2, _⟩ := dcL_facts hm
      have hlen : (dcL m).length ≤ 100 := by
        rcases d1 with h | ⟨h, h0⟩
        · rw [h]; decide
        · have hne : dcL m ≠ [] := fun e => by rw [e] at h; cases h
          have h1 := dV_ge (isd_all h) h0 hne
          rw [d2] at h1
          rcases Nat.lt_or_ge 100 (dcL m).length with h2 | h2
          · have h3 : 10 ^ 20 ≤ 10 ^ ((dcL m).length - 1) := Nat.pow_le_pow_right (by decide) (by omega)
            have h4 : m < 10 ^ 20 := Nat.lt_of_le_of_lt (show m ≤ 18446744073709551615 by omega) (by decide)
            omega
          · exact h2
      have c12 : ∀ W, Calls Tryz.prog 12 #[.slice (some ⟨W.heap.size, 0, none⟩) 1 1] (W.alloc (.cells #[.int .u64 (m : Int)] 22)) fun r w' => r = .returned (.string (B (dcL m))) ∧ Below W.heap.size W w' := fun W =>
        (dec_v (K := 1) (by decide) hm (nt_one (W := W) (V := m) rfl rfl (by omega))).mono fun r w' ⟨e1, e2⟩ => ⟨e1, bnx (below1 _ _) e2⟩
      have tex : ∀ (D : List UInt8) (e : Int), D.length ≤ 200 → gdD D → -40000 ≤ e ∧ e ≤ 40000 → jnP ⟨1, sg, false, D, e⟩ ∧ gdP ⟨1, sg, false, D, e⟩ := fun D e hD hg he => by
        have hgd : gdP ⟨1, sg, false, D, e⟩ := ⟨hg, Or.inl ⟨rfl, rfl, by dsimp only; omega, by
          have := tex_len2 (c := 1) (s := sg) (g := false) (d := D) (e := e) (by omega)
          show (texT 1 sg false D e).length ≤ 4000
          omega⟩⟩
        exact ⟨jn_of_gd hgd, hgd⟩
      obtain ⟨hj, hgd⟩ := tex (dcL m) ex (by omega) d1 (by omega)
      have c16p := fun W hT hT10 => make_v (p := ⟨1, sg, false, dcL m, ex⟩) hb hk hj (by dsimp only; omega) W hT hT10
      have c17 := fun W hT10 => rjoin_y ⟨1, sg, false, dcL m, ex⟩ W (by dsimp only; omega) (by dsimp only; omega) hT10 hgd
      have hl4 : (texT 1 sg false (dcL m) ex).length ≤ 10000 := by
        have := tex_len2 (c := 1) (s := sg) (g := false) (d := dcL m) (e := ex) (by omega)
        omega
      have c13 := fun W hT hT10 => read_w hb hk hj.2 hj hl4 W hT hT10
      by_cases hne : dcL m = []
      · exact sp_e n d m ex z sg w hT hT10 c15 c7 (dcL m) _ k _ _ hlen hkz hk30 hz hex c12 c16p c17 c13 hne
      · refine sp_k n d m ex z sg w hT hT10 c15 c7 (dcL m) _ k _ _ hlen hkz hk30 hz hex c12 c16p c17 c13 hne fun W hT hT10 => ?_
        obtain ⟨hj2, _⟩ := tex (dcL m ++ List.replicate k 48) (ex - k) (by rw [List.length_append, List.length_replicate]; omega) (gd_zeros d1 hne k) (by omega)
        obtain ⟨m1, m2⟩ := mk_zeros n d sg (gdD_all d1) ex k
        have := make_v (p := ⟨1, sg, false, dcL m ++ List.replicate k 48, ex - k⟩) hb hk hj2 (by dsimp only; omega) W hT hT10
        rw [m1, m2] at this
        exact this
    · refine sp_nd n d V ex z sg w hT hT10 c15 (fun W => ?_)
      have := rdir_any d W
      rw [decide_eq_false hk] at this
      exact this
  · refine sp_nb n d V ex z sg w hT hT10 (fun W => ?_)
    have := rbinary_any n W
    rw [decide_eq_false hb] at this
    exact this.mono fun _ _ ⟨h1, h2⟩ => ⟨h1, h2.symm⟩
end Go.Proofs.YtpfnfaekgaipjaaGreatDoor
