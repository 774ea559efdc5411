/-
  What nat's divideStep does: a contract.
-/
import Derived.Test.YtkbplchgaploeaaDoorDst
set_option linter.unusedVariables false
set_option linter.unusedSimpArgs false
namespace Go.Proofs.YtkbplchgaploeaaDoor
open Go.RowKit

theorem stp_on {R D dg V0 V1 u1 C Q : Int} (h : V1 - C * Q = V0 - dg * D) (hR : R = V0 + u1 * Q) (h0 : 0 ≤ V1) (hV : V1 < Q) (hD : 0 < D) (hDQ : D < Q) (h1 : R < (dg + 1) * D) (hc : C ≤ u1) : R / D = dg ∧ R % D = V1 := by
  have e : R - dg * D = V1 + (u1 - C) * Q := by rw [Int.sub_mul]; omega
  have e1 : (dg + 1) * D = dg * D + D := by rw [Int.add_mul, Int.one_mul]
  have hk : u1 = C := by
    rcases Int.lt_or_le C u1 with hlt | hge
    · have : 1 * Q ≤ (u1 - C) * Q := Int.mul_le_mul_of_nonneg_right (by omega) (by omega)
      omega
    · omega
  rw [hk, Int.sub_self, Int.zero_mul] at e
  have := (Int.ediv_emod_unique hD (a := R) (r := V1) (q := dg)).2 ⟨by rw [Int.mul_comm]; omega, h0, by omega⟩
  exact this
theorem stp_back {R D dg V0 V1 u1 C Q N1 c : Int} (h : V1 - C * Q = V0 - dg * D) (hR : R = V0 + u1 * Q) (h0 : 0 ≤ V1) (hV : V1 < Q) (hD : 0 < D) (hDQ : D < Q) (h2 : (dg - 1) * D ≤ R) (hc : u1 < C) (hn : N1 + c * Q = V1 + D) (n0 : 0 ≤ N1) (n1 : N1 < Q) : R / D = dg - 1 ∧ R % D = N1 := by
  have e : R - dg * D = V1 + (u1 - C) * Q := by rw [Int.sub_mul]; omega
  have e1 : (dg - 1) * D = dg * D - D := by rw [Int.sub_mul, Int.one_mul]
  have hneg : (C - u1) * Q ≥ 1 * Q := Int.mul_le_mul_of_nonneg_right (by omega) (by omega)
  have e2 : (u1 - C) * Q = - ((C - u1) * Q) := by rw [← Int.neg_mul]; congr 1; omega
  have e3 : N1 - (R - (dg - 1) * D) = (C - u1 - c) * Q := by rw [Int.sub_mul (C - u1) c Q]; omega
  have hk : C - u1 - c = 0 := by
    rcases Int.lt_trichotomy (C - u1 - c) 0 with hl | he | hg
    · have : (C - u1 - c) * Q ≤ (-1) * Q := Int.mul_le_mul_of_nonneg_right (by omega) (by omega)
      omega
    · exact he
    · have : 1 * Q ≤ (C - u1 - c) * Q := Int.mul_le_mul_of_nonneg_right (by omega) (by omega)
      omega
  rw [hk, Int.zero_mul] at e3
  exact (Int.ediv_emod_unique hD (a := R) (r := N1) (q := dg - 1)).2 ⟨by rw [Int.mul_comm]; omega, n0, by omega⟩

set_option maxHeartbeats 2000000 in
theorem divideStep_any (g N off t c c' : Nat) (a' : Option Addr) (z y : Nat → Int) (w : World) (ht : 2 ≤ t) (hm : off + t + 1 ≤ N) (hN : N < 4294967296) (hz : Words z) (h : Own g N z w) (h' : Num w a' t c' y) (hA : Apart a' g) (hy1 : 9223372036854775808 ≤ y (t - 1)) (hlt : val (segW z off (t + 1)) (t + 1) < val y t * 18446744073709551616) :
    Calls Tryd.prog 65 #[.slice (some ⟨g, off, none⟩) (t + 1) c, .slice a' t c'] w fun e w' => e = .returned (.int .u64 (val (segW z off (t + 1)) (t + 1) / val y t)) ∧ ∃ z', Own g N z' w' ∧ Words z' ∧ (∀ i, i < off → z' i = z i) ∧ val (segW z' off t) t = val (segW z off (t + 1)) (t + 1) % val y t ∧ Upd g w w' := by
  have hy := h'.2.2.1
  obtain ⟨p, rfl⟩ : ∃ p, t = p + 2 := ⟨t - 2, by omega⟩
  have hy1' : 9223372036854775808 ≤ y (p + 1) := hy1
  have G : Gs (val (segW z off (p + 2 + 1)) (p + 2 + 1)) (val y (p + 2)) (z (off + (p + 2))) (z (off + (p + 1))) (y (p + 1)) (y p) (18446744073709551616 ^ p) (val (segW z off (p + 1)) (p + 1)) (val y p) := by
    have ba := val_bd (segW_words hz off (p + 1)) (p + 1)
    have bb := val_bd hy p
    refine ⟨?_, ?_, pw_pos p, ba.1, by rw [← Int.pow_succ]; exact ba.2, bb.1, bb.2, hz _, hz _, ⟨hy1', (hy _).2⟩, hy _, hlt⟩
    · rw [seg_next, seg_next, Int.pow_succ, Int.pow_succ, Int.pow_succ]; grind
    · show val y p + y p * 18446744073709551616 ^ p + y (p + 1) * 18446744073709551616 ^ (p + 1) = _
      rw [Int.pow_succ]; grind
  have hsp := gsF_spec G
  have hg := fun w => guess_any (z (off + (p + 2))) (z (off + (p + 1))) (y (p + 1)) (y p) w (hz _) (hz _) ⟨hy1', (hy _).2⟩ (hy _)
  have hposD := G.posD
  have hRe : val (segW z off (p + 2 + 1)) (p + 2 + 1) = val (segW z off (p + 2)) (p + 2) + z (off + (p + 2)) * 18446744073709551616 ^ (p + 2) := seg_next z off (p + 2)
  have hDQ := (val_bd hy (p + 2)).2
  generalize gsF (z (off + (p + 2))) (z (off + (p + 1))) (y (p + 1)) (y p) = dg at *
  generalize hR : val (segW z off (p + 2 + 1)) (p + 2 + 1) = R at *
  obtain ⟨b, off', rfl, hb, hc⟩ := h'.cells (by omega)
  have hv1 := hc (p + 1) (by omega)
  have hv0 := hc p (by omega)
  have hu1 := h.cell (off + (p + 2)) (by omega)
  have hu0 := h.cell (off + (p + 1)) (by omega)
  have bu1 := hz (off + (p + 2))
  have hsub := fun wr hO hN' => subProduct_any g N off (p + 2 + 1) c (p + 2) c' (some ⟨b, off', none⟩) z y dg wr (by omega) hN (by omega) hz ⟨hsp.1, hsp.2.1⟩ hO hN' hA
  have hpi : (0 : Int) ≤ p := by omega
  go_enter Tryd.func65, Tryd.ntmps65
  go_wp2
  go_quiet ((go_at_call 72; exact (hg _).mono fun _ _ h => ⟨h.1, h.2.elim fun m hm => ⟨_, hm.trans (drw_add _ _ _)⟩⟩))
  go_wp2
  have HRe : Hid (R = val (segW z off (p + 2)) (p + 2) + z (off + (p + 2)) * 18446744073709551616 ^ (p + 2)) := hRe
  have HSP : Hid (R < (dg + 1) * val y (p + 2) ∧ (dg - 1) * val y (p + 2) ≤ R) := ⟨hsp.2.2.1, hsp.2.2.2⟩
  have hdg0 := hsp.1
  have hdg1 := hsp.2.1
  have HWY : Hid (Words y) := hy
  have HWZ : Hid (Words z) := hz
  clear hsp hRe G hg hlt hc hv1 hv0 hu0 hy hz hy1 hy1' hR
  go_region_with (go_at_call 73; refine (hsub (w.drewN nq).drew h h').mono ?_; rintro e w1 ⟨C, z1, rfl, hCb, hO1, hw1, hvv, hzx1, hU1⟩; have hct := hO1.cell (off + (p + 2)) (by omega); rw [hzx1 (off + (p + 2)) (by omega)] at hct)
  all_goals
    have hbd := val_bd (segW_words hw1 off (p + 2)) (p + 2)
    by_cases hcc : z (off + (p + 2)) < C
    · have hd1 : 1 ≤ dg := by
        rcases Int.lt_or_le 0 dg with h1 | h1
        · omega
        · exfalso
          have e0 : dg = 0 := by omega
          rw [e0, Int.zero_mul, Int.sub_zero] at hvv
          have h5 := (val_bd (segW_words HWZ.out off (p + 2)) (p + 2)).1
          have h6 : 1 * 18446744073709551616 ^ (p + 2) ≤ C * 18446744073709551616 ^ (p + 2) := Int.mul_le_mul_of_nonneg_right (by omega) (Int.le_of_lt (pw_pos _))
          omega
      have had := addInto_any g N off (p + 2 + 1) c (p + 2) c' (some ⟨b, off', none⟩) z1 y w1 (by omega) hN (by omega) hw1 hO1 (hU1.num' hA h') hA
      have e1 : val (segW (addZ z1 y off (p + 2)) off (p + 2)) (p + 2) = val (sumW (fun i => z1 (off + i)) y) (p + 2) := val_congr _ fun i hi => by
        rw [segW_lt _ _ _ i hi]; unfold addZ; rw [if_pos (by omega)]; congr 1; omega
      have e2 : val (fun i => z1 (off + i)) (p + 2) = val (segW z1 off (p + 2)) (p + 2) := val_congr _ fun i hi => by rw [segW_lt _ _ _ i hi]
      have e3 := sum_val (x := fun i => z1 (off + i)) (y := y) (p + 2)
      rw [e2, ← e1] at e3
      have HAW : Hid (Words (addZ z1 y off (p + 2))) := fun i => by
        unfold addZ; split
        · exact sumW_words _ _ _
        · exact hw1 i
      have hnb := val_bd (segW_words HAW.out off (p + 2)) (p + 2)
      have HQ : Hid (R / val y (p + 2) = dg - 1 ∧ R % val y (p + 2) = val (segW (addZ z1 y off (p + 2)) off (p + 2)) (p + 2)) := stp_back hvv HRe.out hbd.1 hbd.2 hposD hDQ HSP.out.2 hcc e3 hnb.1 hnb.2
      have HU : Hid (Upd g w w1) := ⟨hU1.os, hU1.tape, hU1.output, hU1.size, hU1.block⟩
      have HZX : Hid (∀ i, i < off → addZ z1 y off (p + 2) i = z i) := fun i hi => by
        unfold addZ; rw [if_neg (by omega)]; exact hzx1 i (Or.inl hi)
      clear e1 e2 e3 hnb hbd hvv hzx1 hO1 hw1 hU1 hsub h h' hposD hDQ HRe HSP
      go_wp2_with (go_at_call 43; refine had.mono ?_; rintro e w2 ⟨rfl, hO2, hU2⟩)
      go_ret
      exact ⟨ret_int HQ.out.1.symm, _, hO2, HAW.out, HZX.out, HQ.out.2.symm, HU.out.trans hU2⟩
    · have HQ : Hid (R / val y (p + 2) = dg ∧ R % val y (p + 2) = val (segW z1 off (p + 2)) (p + 2)) := stp_on hvv HRe.out hbd.1 hbd.2 hposD hDQ HSP.out.1 (by omega)
      have HU : Hid (Upd g w w1) := ⟨hU1.os, hU1.tape, hU1.output, hU1.size, hU1.block⟩
      have HO : Hid (Own g N z1 w1) := hO1
      have HW1 : Hid (Words z1) := hw1
      have HZX : Hid (∀ i, i < off → z1 i = z i) := fun i hi => hzx1 i (Or.inl hi)
      clear hbd hvv hzx1 hO1 hw1 hU1 hsub h h' hposD hDQ HRe HSP
      go_wp2
      go_ret
      exact ⟨ret_int HQ.out.1.symm, z1, HO.out, HW1.out, HZX.out, HQ.out.2.symm, HU.out⟩
end Go.Proofs.YtkbplchgaploeaaDoor
