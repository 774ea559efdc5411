/-
  Texts that the proof leans on.
-/
import Derived.Test.YtgknbdehlmlipaaDoorJ44
import Derived.Test.YtgknbdehlmlipaaDoorJ38
import Derived.Test.YtgknbdehlmlipaaDoorJ39
import Derived.Test.YtgknbdehlmlipaaDoorJ42
import Derived.Test.YtgknbdehlmlipaaDoorJ43
import Derived.Test.YtgknbdehlmlipaaDoorJ37
import Derived.Test.YtgknbdehlmlipaaDoorJ40
set_option linter.unusedVariables false
set_option linter.unusedSectionVars false
set_option linter.unusedSimpArgs false
set_option maxRecDepth 20000
namespace Go.Proofs.YtgknbdehlmlipaaDoor
open Go.RowKit
set_option maxHeartbeats 1000000 in
theorem layof_ok (n : Int) (w : World) (hT : Tab w) (hd : decN n) : Calls Tryd.prog 52 #[.int .i64 n] w fun r w' => r = .returned (.tuple #[LF (fD n), .int .i64 0]) ∧ Below w.heap.size w w' := by
  obtain ⟨hok, f1, f2, f3, f4, f5, f6, f7, f8⟩ := dec_fields hd
  have c1 := fun W hW => ofv_any n W hW
  rw [show infoE n = 0 from if_pos hok, f1, f2, f3, f4, f5, f6, f7, f8] at c1
  have h := fD_ok n
  have hw := h.w12
  generalize fD n = f at *
  have hG : ((f.t + (f.w + 6) : Nat) : Int) / 16 + 9 = ((f.w + 5 : Nat) : Int) := by rcases h with ⟨h1, h2, h3, h4⟩ | ⟨h1, h2, h3, h4⟩ | ⟨h1, h2, h3, h4⟩ <;> rw [h1, h2] <;> rfl
  have cc := fun W => dten_v (3 * f.j + 1) W (by omega)
  have cp := fun W => dten_v (3 * f.j) W (by omega)
  have e1 : ((3 * f.j + 1 : Nat) : Int) = 3 * (f.j : Int) + 1 := by omega
  have e2 : ((3 * f.j : Nat) : Int) = 3 * (f.j : Int) := by omega
  have cw := cp
  rw [e1] at cc
  rw [e2] at cp
  unfold LF
  cases e : f.dn
  · rw [e] at c1
    have eB : vB f = 0 := by unfold vB; rw [e, if_neg (by decide)]
    have eQ : vQ f = 2 ^ f.t := by unfold vQ; rw [e, if_neg (by decide)]
    have cs := fun W => shl4 1 f.t W (by decide) (by omega)
    rw [Nat.one_mul] at cs
    rw [eB, eQ]
    exact dlay_p n _ n _ _ _ _ _ _ w hT _ _ _ _ (by omega) (by omega) hG (by omega) (by omega) (by omega) (by omega) (by omega) cc cp _ c1 (fun W => of4 1 W (by decide)) cs
  · rw [e] at c1
    have eB : vB f = f.w := by unfold vB; rw [e, if_pos rfl]
    have eQ : vQ f = 10 ^ (3 * f.j) := by unfold vQ; rw [e, if_pos rfl]
    rw [eB, eQ]
    rw [show ((3 * f.j : Nat) : Int) = 3 * (f.j : Int) + 1 - 1 by omega] at cw
    exact dlay_d n _ n _ _ _ _ _ _ w hT _ _ _ _ (by omega) (by omega) hG (by omega) (by omega) (by omega) (by omega) (by omega) cc cp _ _ (by omega) (by omega) (by omega) c1 cw
theorem not_dec {n : Int} (h : ¬ decN n) : (okN n ∧ (baseN n != 10) = true) ∨ ¬ okN n := by
  by_cases hk : okN n
  · left
    refine ⟨hk, ?_⟩
    unfold decN at h
    rcases okN_cases hk with rfl | rfl | rfl | rfl | rfl | rfl | rfl | rfl | rfl | rfl | rfl | rfl <;> first | rfl | omega
  · exact Or.inr hk
theorem layof_bad (n : Int) (w : World) (hT : Tab w) (hd : ¬ decN n) : Calls Tryd.prog 52 #[.int .i64 n] w fun r w' => r = .returned (.tuple #[ZL, .int .i64 1]) ∧ Below w.heap.size w w' := by
  have c1 := fun W hW => ofv_any n W hW
  rcases not_dec hd with ⟨hk, hb⟩ | hk
  · rw [show infoE n = 0 from if_pos hk] at c1
    exact dlay_b n _ _ _ _ _ _ _ _ _ _ w hT hb c1
  · rw [show infoE n = 1 from if_neg hk] at c1
    exact dlay_e n _ _ _ _ _ _ _ _ _ _ w hT 1 rfl c1
theorem fits_dec {n : Int} (B : Nat) (hd : decN n) : (okN n ∧ B < 2 ^ (widthN n).toNat) ↔ goodD n B := by
  have hF := dec_fields hd
  rw [hF.2.2.2.1, Int.toNat_natCast]
  exact ⟨fun h => ⟨hd, h.2⟩, fun h => ⟨hF.1, h.2⟩⟩
theorem layfor_ok (n : Int) (B : Nat) (w : World) (hT : Tab w) (hB : B < 2 ^ 256) (hg : goodD n B) : Calls Tryd.prog 35 #[.int .i64 n, A4 B] w fun r w' => r = .returned (.tuple #[LF (fD n), .int .i64 0]) ∧ Below w.heap.size w w' := by
  have c1 := fun W hW => fits4 n B hB W hW
  rw [decide_eq_true ((fits_dec B hg.1).2 hg)] at c1
  exact dfor_y n B w hT c1 _ _ _ _ _ _ _ _ _ (fun W hW => layof_ok n W hW hg.1)
theorem layfor_bad (n : Int) (B : Nat) (w : World) (hT : Tab w) (hB : B < 2 ^ 256) (hg : ¬ goodD n B) : Calls Tryd.prog 35 #[.int .i64 n, A4 B] w fun r w' => r = .returned (.tuple #[ZL, .int .i64 1]) ∧ Below w.heap.size w w' := by
  have c1 := fun W hW => fits4 n B hB W hW
  by_cases hd : decN n
  · rw [decide_eq_false (fun q => hg ((fits_dec B hd).1 q))] at c1
    exact dfor_n n B w hT c1
  · by_cases hf : okN n ∧ B < 2 ^ (widthN n).toNat
    · rw [decide_eq_true hf] at c1
      exact dfor_b n B w hT c1 (fun W hW => layof_bad n W hW hd)
    · rw [decide_eq_false hf] at c1
      exact dfor_n n B w hT c1
/-- decimal.Unpack by value -/
theorem dunpk14 (n : Int) (B : Nat) (hB : B < 2 ^ 256) (W : World) (hT : Tab W) : Calls Tryd.prog 22 #[.int .i64 n, A4 B] W fun r w' => r = .returned (.tuple #[(vUD n B).v, .bool (vUC n B), .int .i64 (vUE n B)]) ∧ Below W.heap.size W w' := by
  by_cases hg : goodD n B
  · obtain ⟨e1, e2, e3⟩ := vU_good hg
    rw [e1, e2, e3]
    have h := fD_ok n
    have c3 := fun W => fpack h (vM (fD n) B) W (vM_256 h B)
    rw [if_pos (vM_is h B), if_pos (vM_is h B)] at c3
    refine dunp_y n W hT _ _ _ _ _ _ _ _ _ B (fun W hW => layfor_ok n B W hW hB hg) _ _ _ _ _ _ _ (fun W => fmean h B W hB) c3 _ ?_
    exact eq_words (vP_256 h (vM_is h B)) hB
  · obtain ⟨e1, e2, e3⟩ := vU_bad hg
    rw [e1, e2, e3, zero_v]
    exact dunp_n n W hT B (fun W hW => layfor_bad n B W hW hB hg)
end Go.Proofs.YtgknbdehlmlipaaDoor
