/-
  Texts that the proof leans on, joined: Vl, Vm, Zm.
-/
import Derived.Test.YtjjaamdgochilaaDoorJ25
import Derived.Test.YtjjaamdgochilaaDoorJ28
import Derived.Test.YtjjaamdgochilaaDoorJ30
import Derived.Test.YtjjaamdgochilaaDoorJ31
import Derived.Test.YtjjaamdgochilaaDoorJ32
import Derived.Test.YtjjaamdgochilaaDoorJ1
import Derived.Test.YtjjaamdgochilaaDoorJ26
set_option linter.unusedVariables false
set_option linter.unusedSectionVars false
set_option linter.unusedSimpArgs false
set_option maxRecDepth 20000
namespace Go.Proofs.YtjjaamdgochilaaDoor
open Go.RowKit
/-- what every path of meaning leans on -/
structure VC (n : Int) (B : Nat) : Prop where
  cO : ∀ W, Calls Tryd.prog 23 #[.int .i64 n] W fun r w' => r = .returned (.tuple #[IDec n (nameN n) (((fD n).t + ((fD n).w + 6) : Nat) : Int) (3 * ((fD n).j : Int) + 1) (expN n) (fD n).l ((fD n).l + 3 * 2 ^ (fD n).w - 1) (3 * ((fD n).j : Int)) (fD n).dn, .int .i64 0]) ∧ Below W.heap.size W w'
  cS : ∀ W, Calls Tryd.prog 25 #[IDec n (nameN n) (((fD n).t + ((fD n).w + 6) : Nat) : Int) (3 * ((fD n).j : Int) + 1) (expN n) (fD n).l ((fD n).l + 3 * 2 ^ (fD n).w - 1) (3 * ((fD n).j : Int)) (fD n).dn] W fun r w' => r = .returned (.tuple #[.int .i64 (((fD n).w : Int) + 5), .int .i64 ((fD n).t : Int), .int .i64 ((fD n).j : Int)]) ∧ Below W.heap.size W w'
  cF1 : ∀ W, Calls Tryd.prog 34 #[A4 B, .int .i64 ((fD n).t : Int), .int .i64 (((fD n).w : Int) + 5)] W fun r w' => ∃ v, r = .returned v ∧ NT 19 (vG (fD n) B) v w' ∧ Below W.heap.size W w'
  cF2 : ∀ W, Calls Tryd.prog 34 #[A4 B, .int .i64 0, .int .i64 ((fD n).t : Int)] W fun r w' => ∃ v, r = .returned v ∧ NT 19 (vR (fD n) B) v w' ∧ Below W.heap.size W w'
  cF3 : ∀ W, Calls Tryd.prog 34 #[A4 B, .int .i64 (((fD n).t : Int) + (((fD n).w : Int) + 5)), .int .i64 1] W fun r w' => ∃ v, r = .returned v ∧ NT 19 (B / 2 ^ ((fD n).t + ((fD n).w + 5)) % 2) v w' ∧ Below W.heap.size W w'
  cM1 : ∀ W v, NT 19 (vG (fD n) B) v W → Calls Tryd.prog 32 #[v] W fun r w' => r = .returned (.int .i64 (vG (fD n) B : Int)) ∧ W = w'
  cM3 : ∀ W v, NT 19 (B / 2 ^ ((fD n).t + ((fD n).w + 5)) % 2) v W → Calls Tryd.prog 32 #[v] W fun r w' => r = .returned (.int .i64 ((B / 2 ^ ((fD n).t + ((fD n).w + 5)) % 2 : Nat) : Int)) ∧ W = w'
  cB2 : ∀ W v, NT 19 (vR (fD n) B) v W → Calls Tryd.prog 31 #[v] W fun r w' => r = .returned (A4 (vR (fD n) B)) ∧ Below W.heap.size W w'
  hAb : (vG (fD n) B : Int) ≤ 200000
  hV : (vG (fD n) B : Int) / 2 ^ (fD n).w = ((vV (fD n).w (vG (fD n) B) : Nat) : Int)
  hV1 : vV (fD n).w (vG (fD n) B) ≤ 31
  hsg : (((B / 2 ^ ((fD n).t + ((fD n).w + 5)) % 2 : Nat) : Int) == 1) = vS (fD n) B
theorem g_lim {f : DF} (h : f.ok) (B : Nat) : vG f B < 131072 := by
  have := vG_lt f B
  rcases h with ⟨h1, h2, h3, h4⟩ | ⟨h1, h2, h3, h4⟩ | ⟨h1, h2, h3, h4⟩ <;> rw [h2] at this <;> simp only [Nat.reducePow, Nat.reduceAdd] at this <;> omega
theorem vc_of {n : Int} (h : decN n) (B : Nat) (hB : B < 2 ^ 256) : VC n B := by
  have ho := fD_ok n
  obtain ⟨w6, w12, t20, t110, j2, j11, t64, l0, l1, H0, H1⟩ := ok_bounds ho
  have hg := g_lim ho B
  refine ⟨fun W => rof_dec h W, fun W => dec_shape h _ _ _ _ _ _ W, fun W => ?_, fun W => ?_, fun W => ?_, fun W v hv => ?_, fun W v hv => ?_, fun W v hv => bits_nv hv.nv, by omega, ?_, ?_, ?_⟩
  · have := field_any B (fD n).t ((fD n).w + 5) W hB (by omega) (by omega)
    rw [show (((fD n).w + 5 : Nat) : Int) = ((fD n).w : Int) + 5 by omega] at this
    exact this
  · have := field_any B 0 (fD n).t W hB (by decide) (by omega)
    rw [Nat.pow_zero, Nat.div_one] at this
    exact this
  · have := field_any B ((fD n).t + ((fD n).w + 5)) 1 W hB (by omega) (by decide)
    rw [show (((fD n).t + ((fD n).w + 5) : Nat) : Int) = ((fD n).t : Int) + (((fD n).w : Int) + 5) by omega, Nat.pow_one] at this
    exact this
  · exact (number_wide hv.nv (by decide) (by omega)).mono fun r w' ⟨e1, e2⟩ => ⟨e1, e2.symm⟩
  · exact (number_wide hv.nv (by decide) (by omega)).mono fun r w' ⟨e1, e2⟩ => ⟨e1, e2.symm⟩
  · unfold vV
    rw [← powCast, Int.natCast_ediv]
  · have := vG_lt (fD n) B
    rw [Nat.pow_add] at this
    unfold vV
    have : vG (fD n) B / 2 ^ (fD n).w < 32 := by rw [Nat.div_lt_iff_lt_mul (Nat.two_pow_pos _), Nat.mul_comm]; exact this
    omega
  · unfold vS
    rw [Bool.eq_iff_iff]
    simp only [beq_iff_eq, decide_eq_true_eq]
    omega
theorem cU_of {n : Int} (B : Nat) : ∀ W, Calls Tryd.prog 48 #[A4 (vR (fD n) B), .int .i64 ((fD n).j : Int)] W fun r w' => r = .returned (.tuple #[A4 (dlU (fD n).j (vR (fD n) B)), .int .i64 0]) ∧ Below W.heap.size W w' := fun W => by
  have ho := fD_ok n
  obtain ⟨w6, w12, t20, t110, j2, j11, t64, l0, l1, H0, H1⟩ := ok_bounds ho
  have hr := vR_lt (fD n) B
  have p2 := p_200 (a := (fD n).t) (by omega)
  have p3 : (2 : Nat) ^ 220 < 2 ^ 256 := by decide
  have := rupk_any (vR (fD n) B) ((fD n).j : Int) W (by omega)
  have c1 : (0 : Int) ≤ ((fD n).j : Int) ∧ ((fD n).j : Int) ≤ 11 := by omega
  rw [ho.pt] at hr
  unfold dUv dUe at this
  rw [if_pos c1, if_pos c1, Int.toNat_natCast, if_pos hr, if_pos hr] at this
  exact this
theorem vmean_s {n : Int} (h : decN n) (B : Nat) (w : World) (hB : B < 2 ^ 256) (h30 : vV (fD n).w (vG (fD n) B) = 30 ∨ vV (fD n).w (vG (fD n) B) = 31) :
    Calls Tryd.prog 20 #[.int .i64 n, A4 B] w fun r w' => r = .returned (vM (fD n) B).v ∧ Below w.heap.size w w' := by
  have ho := fD_ok n
  obtain ⟨w6, w12, t20, t110, j2, j11, t64, l0, l1, H0, H1⟩ := ok_bounds ho
  have C := vc_of h B hB
  have hg := g_lim ho B
  have hr := vR_lt (fD n) B
  have p2 := p_200 (a := (fD n).t) (by omega)
  have p3 : (2 : Nat) ^ 220 < 2 ^ 256 := by decide
  unfold vM vD
  by_cases e30 : vV (fD n).w (vG (fD n) B) = 30
  · rw [if_pos e30]
    have := vmn_i n _ _ _ _ _ _ _ _ _ _ B _ _ _ _ _ (fD n).w w (by omega) (by omega) (by omega) (by omega) (by omega) (by omega) C.hAb C.cF1 C.cF2 C.cF3 C.cM1 C.cM3 C.cB2 (by omega) w12 C.hV (by omega) (by have := C.hV1; omega) C.hsg _ C.cO C.cS (by rw [e30]; rfl)
    rw [show (Dat.mk 2 (vS (fD n) B) false 0 0).v = .agg #[.int .i64 2, .bool (vS (fD n) B), .bool false, .int .i64 0, .int .u64 0, .int .u64 0, .int .u64 0, .int .u64 0] by unfold Dat.v DV; simp only [W4_zero]]
    exact this
  · have e31 : vV (fD n).w (vG (fD n) B) = 31 := by omega
    rw [if_neg e30, if_pos e31]
    have hgg : (bits .and .u64 ((vG (fD n) B : Int) / 2 ^ ((fD n).w - 1)) 1 == 1) = decide (vG (fD n) B / 2 ^ ((fD n).w - 1) % 2 = 1) := by
      have hle : vG (fD n) B / 2 ^ ((fD n).w - 1) ≤ vG (fD n) B := Nat.div_le_self _ _
      have := and_lay (vG (fD n) B / 2 ^ ((fD n).w - 1)) 1 (by decide) (by omega)
      rw [Int.natCast_ediv, powCast] at this
      rw [show (((2 ^ 1 : Nat) : Int) - 1) = 1 by decide] at this
      rw [this, Nat.pow_one, Bool.eq_iff_iff]
      simp only [beq_iff_eq, decide_eq_true_eq]
      omega
    have b30 : (((vV (fD n).w (vG (fD n) B) : Nat) : Int) == 30) = false := by rw [e31]; rfl
    have b31 : (((vV (fD n).w (vG (fD n) B) : Nat) : Int) == 31) = true := by rw [e31]; rfl
    have cO := C.cO
    have cS := C.cS
    cases hdn : (fD n).dn
    · rw [hdn] at cO cS
      have eT : vT (fD n) (vR (fD n) B) = vR (fD n) B := by unfold vT; rw [hdn]; rfl
      rw [eT]
      have cW := fun W => rbelowt (vR (fD n) B) (3 * (fD n).j) W (by omega) (by omega)
      rw [show ((3 * (fD n).j : Nat) : Int) = 3 * ((fD n).j : Int) by omega] at cW
      by_cases hlt : vR (fD n) B < 10 ^ (3 * (fD n).j)
      · rw [decide_eq_true hlt] at cW
        rw [if_pos hlt]
        exact vmn_nfy n _ _ _ _ _ _ _ _ _ _ B _ _ _ _ _ (fD n).w w (by omega) (by omega) (by omega) (by omega) (by omega) (by omega) C.hAb C.cF1 C.cF2 C.cF3 C.cM1 C.cM3 C.cB2 (by omega) w12 C.hV (by omega) (by have := C.hV1; omega) C.hsg ((fD n).w - 1) _ cO cS b30 b31 (by omega) (by omega) hgg cW
      · rw [decide_eq_false hlt] at cW
        rw [if_neg hlt]
        have := vmn_nfn n _ _ _ _ _ _ _ _ _ _ B _ _ _ _ _ (fD n).w w (by omega) (by omega) (by omega) (by omega) (by omega) (by omega) C.hAb C.cF1 C.cF2 C.cF3 C.cM1 C.cM3 C.cB2 (by omega) w12 C.hV (by omega) (by have := C.hV1; omega) C.hsg ((fD n).w - 1) _ cO cS b30 b31 (by omega) (by omega) hgg cW
        rw [show (Dat.mk 3 (vS (fD n) B) (decide (vG (fD n) B / 2 ^ ((fD n).w - 1) % 2 = 1)) 0 0).v = .agg #[.int .i64 3, .bool (vS (fD n) B), .bool (decide (vG (fD n) B / 2 ^ ((fD n).w - 1) % 2 = 1)), .int .i64 0, .int .u64 0, .int .u64 0, .int .u64 0, .int .u64 0] by unfold Dat.v DV; simp only [W4_zero]]
        exact this
    · rw [hdn] at cO cS
      have eT : vT (fD n) (vR (fD n) B) = dlU (fD n).j (vR (fD n) B) := by unfold vT; rw [hdn]; rfl
      have hlt : dlU (fD n).j (vR (fD n) B) < 10 ^ (3 * (fD n).j) := by rw [ten3]; exact dlU_lt _ _
      rw [eT, if_pos hlt]
      have hU := dlU_256 (fD n).j (vR (fD n) B) j11
      have cW := fun W => rbelowt (dlU (fD n).j (vR (fD n) B)) (3 * (fD n).j) W hU (by omega)
      rw [show ((3 * (fD n).j : Nat) : Int) = 3 * ((fD n).j : Int) by omega, decide_eq_true hlt] at cW
      exact vmn_nty n _ _ _ _ _ _ _ _ _ _ B _ _ _ _ _ (fD n).w w (by omega) (by omega) (by omega) (by omega) (by omega) (by omega) C.hAb C.cF1 C.cF2 C.cF3 C.cM1 C.cM3 C.cB2 (by omega) w12 C.hV (by omega) (by have := C.hV1; omega) C.hsg ((fD n).w - 1) _ _ cO cS b30 b31 (by omega) (by omega) hgg (cU_of B) cW
theorem sgn_below {A B : Nat} (h : A < B) : ¬ (0 : Int) ≤ sgn (A : Int) (B : Int) := by
  rcases sgn_ways (A : Int) (B : Int) with ⟨a, e⟩ | ⟨a, e⟩ | ⟨a, e⟩ <;> omega
theorem sgn_above {A B : Nat} (h : ¬ A < B) : (0 : Int) ≤ sgn (A : Int) (B : Int) := by
  rcases sgn_ways (A : Int) (B : Int) with ⟨a, e⟩ | ⟨a, e⟩ | ⟨a, e⟩ <;> omega
theorem vmean_d {n : Int} (h : decN n) (hdn : (fD n).dn = true) (B : Nat) (w : World) (hB : B < 2 ^ 256) (h30 : vV (fD n).w (vG (fD n) B) ≠ 30) (h31 : vV (fD n).w (vG (fD n) B) ≠ 31) :
    Calls Tryd.prog 20 #[.int .i64 n, A4 B] w fun r w' => r = .returned (vM (fD n) B).v ∧ Below w.heap.size w w' := by
  have ho := fD_ok n
  obtain ⟨w6, w12, t20, t110, j2, j11, t64, l0, l1, H0, H1⟩ := ok_bounds ho
  have Cc := vc_of h B hB
  have hg := g_lim ho B
  have hr := vR_lt (fD n) B
  have p2 := p_200 (a := (fD n).t) (by omega)
  have p3 : (2 : Nat) ^ 220 < 2 ^ 256 := by decide
  have cO := Cc.cO
  have cS := Cc.cS
  rw [hdn] at cO cS
  have b30 : (((vV (fD n).w (vG (fD n) B) : Nat) : Int) == 30) = false := by rw [beq_eq_false_iff_ne]; omega
  have b31 : (((vV (fD n).w (vG (fD n) B) : Nat) : Int) == 31) = false := by rw [beq_eq_false_iff_ne]; omega
  have hH : (2 : Int) ^ (fD n).w = ((2 ^ (fD n).w : Nat) : Int) := (powCast _).symm
  have hV1 := Cc.hV1
  have hVe := Cc.hV
  have hvv : vV (fD n).w (vG (fD n) B) = vG (fD n) B / 2 ^ (fD n).w := rfl
  have hlow : vG (fD n) B % 2 ^ (fD n).w < 2 ^ (fD n).w := Nat.mod_lt _ (Nat.two_pow_pos _)
  have cQ : ∀ W, Calls Tryd.prog 30 #[.int .u64 10, .int .i64 (3 * ((fD n).j : Int) + 1)] W fun r w' => ∃ v, r = .returned v ∧ NV 50000 (10 ^ (3 * (fD n).j + 1)) v w' ∧ Below W.heap.size W w' := fun W => by
    have := rpowt_nv (3 * (fD n).j + 1) W (by omega)
    rw [show ((3 * (fD n).j + 1 : Nat) : Int) = 3 * ((fD n).j : Int) + 1 by omega] at this
    exact this
  have hU := dlU_256 (fD n).j (vR (fD n) B) j11
  have hUt : dlU (fD n).j (vR (fD n) B) < 10 ^ (3 * (fD n).j) := by rw [ten3]; exact dlU_lt _ _
  have cU := cU_of (n := n) B
  have hL := and_lay (vG (fD n) B) (fD n).w (by omega) (by omega)
  have cP : ∀ W, Calls Tryd.prog 30 #[.int .u64 10, .int .i64 (3 * ((fD n).j : Int))] W fun r w' => ∃ v, r = .returned v ∧ NV 50000 (10 ^ (3 * (fD n).j)) v w' ∧ Below W.heap.size W w' := fun W => by
    have := rpowt_nv (3 * (fD n).j) W (by omega)
    rw [show ((3 * (fD n).j : Nat) : Int) = 3 * ((fD n).j : Int) by omega] at this
    exact this
  have eM : vM (fD n) B = ⟨1, vS (fD n) B, false, (vF true (fD n).w (vG (fD n) B) : Int) + (fD n).l, vL true (fD n).w (vG (fD n) B) * 10 ^ (3 * (fD n).j) + dlU (fD n).j (vR (fD n) B)⟩ := by
    have hq : vQ (fD n) = 10 ^ (3 * (fD n).j) := by unfold vQ; rw [hdn]; rfl
    have ht : vT (fD n) (vR (fD n) B) = dlU (fD n).j (vR (fD n) B) := by unfold vT; rw [hdn]; rfl
    unfold vM vD
    rw [if_neg h30, if_neg h31, hdn, hq, ht, if_pos]
    have h9 : vL true (fD n).w (vG (fD n) B) ≤ 9 := by unfold vL; simp only [if_true]; split <;> omega
    have := Nat.mul_le_mul_right (10 ^ (3 * (fD n).j)) h9
    rw [Nat.pow_succ]
    omega
  have hClt : vL true (fD n).w (vG (fD n) B) * 10 ^ (3 * (fD n).j) + dlU (fD n).j (vR (fD n) B) < 10 ^ (3 * (fD n).j + 1) := by
    have h9 : vL true (fD n).w (vG (fD n) B) ≤ 9 := by unfold vL; simp only [if_true]; split <;> omega
    have := Nat.mul_le_mul_right (10 ^ (3 * (fD n).j)) h9
    rw [Nat.pow_succ]
    omega
  rw [eM]
  generalize vV (fD n).w (vG (fD n) B) = V at *
  have hF0 : ∀ q, q ≤ 2 → q * 2 ^ (fD n).w ≤ 2 * 4096 := fun q hq => Nat.mul_le_mul hq H1
  by_cases h24 : V < 24
  · have eF : vF true (fD n).w (vG (fD n) B) = V / 8 * 2 ^ (fD n).w + vG (fD n) B % 2 ^ (fD n).w := by unfold vF vV; simp only [if_true]; rw [← hvv, if_pos h24]
    have eL : vL true (fD n).w (vG (fD n) B) = V % 8 := by unfold vL vV; simp only [if_true]; rw [← hvv, if_pos h24]
    rw [eF, eL]
    rw [eL] at hClt
    have q8 := hF0 (V / 8) (by omega)
    have o1 := or_lay (V / 8) (vG (fD n) B % 2 ^ (fD n).w) (fD n).w hlow (by omega)
    rw [Int.natCast_mul] at o1
    have o2 := and_lay V 3 (by decide) (by omega)
    rw [show (((2 ^ 3 : Nat) : Int) - 1) = 7 by decide, show V % 2 ^ 3 = V % 8 from rfl] at o2
    exact vmn_ds n _ _ _ _ _ _ _ _ _ _ B _ _ _ _ _ (fD n).w w (by omega) (by omega) (by omega) (by omega) (by omega) (by omega) Cc.hAb Cc.cF1 Cc.cF2 Cc.cF3 Cc.cM1 Cc.cM3 Cc.cB2 (by omega) w12 hVe (by omega) (by omega) Cc.hsg _ _ _ _ hH (by omega) (by omega) (by omega) (by omega) (by omega) (by omega) (by omega) (by omega) ((V / 8 : Nat) : Int) 0 0 _ (dlU (fD n).j (vR (fD n) B)) (10 ^ (3 * (fD n).j)) (V % 8 * 10 ^ (3 * (fD n).j)) (V % 8 * 10 ^ (3 * (fD n).j) + dlU (fD n).j (vR (fD n) B)) (10 ^ (3 * (fD n).j + 1)) (V % 8) cO cS b30 b31 (by omega) cU hU hL (by rw [← Int.natCast_mul]; omega) (by rw [← Int.natCast_mul]; omega) o1 (by omega) o2 cP (fun W v v' h1 h2 => (rtimes_nt (by decide) (by decide) h1 h2).mono fun r w' ⟨v, e1, e2, e3⟩ => ⟨v, e1, e2.more (by decide), e3⟩) (fun W v v' h1 h2 => (radd_nv (by decide) (by decide) h1.nv h2).mono fun r w' ⟨v, e1, e2, e3⟩ => ⟨v, e1, e2.more (by decide), e3⟩) rfl cQ (fun W v v' h1 h2 => rcmp_nv (by decide) (by decide) h1 h2) (sgn_below hClt) (fun W v hv => bits_nv hv)
  · have eF : vF true (fD n).w (vG (fD n) B) = V / 2 % 4 * 2 ^ (fD n).w + vG (fD n) B % 2 ^ (fD n).w := by unfold vF vV; simp only [if_true]; rw [← hvv, if_neg h24]
    have eL : vL true (fD n).w (vG (fD n) B) = 8 + V % 2 := by unfold vL vV; simp only [if_true]; rw [← hvv, if_neg h24]
    rw [eF, eL]
    rw [eL] at hClt
    have q8 := hF0 (V / 2 % 4) (by omega)
    have o1 := or_lay (V / 2 % 4) (vG (fD n) B % 2 ^ (fD n).w) (fD n).w hlow (by omega)
    rw [Int.natCast_mul] at o1
    have o2 := and_lay (V / 2) 2 (by decide) (by omega)
    rw [show (((2 ^ 2 : Nat) : Int) - 1) = 3 by decide, show V / 2 % 2 ^ 2 = V / 2 % 4 from rfl, show ((V / 2 : Nat) : Int) = (V : Int) / 2 by omega] at o2
    have o3 := and_lay V 1 (by decide) (by omega)
    rw [show (((2 ^ 1 : Nat) : Int) - 1) = 1 by decide, show V % 2 ^ 1 = V % 2 from rfl] at o3
    exact vmn_db n _ _ _ _ _ _ _ _ _ _ B _ _ _ _ _ (fD n).w w (by omega) (by omega) (by omega) (by omega) (by omega) (by omega) Cc.hAb Cc.cF1 Cc.cF2 Cc.cF3 Cc.cM1 Cc.cM3 Cc.cB2 (by omega) w12 hVe (by omega) (by omega) Cc.hsg _ _ _ ((8 + V % 2 : Nat) : Int) hH (by omega) (by omega) (by omega) (by omega) (by omega) (by omega) (by omega) (by omega) ((V / 2 % 4 : Nat) : Int) ((V % 2 : Nat) : Int) 0 _ (dlU (fD n).j (vR (fD n) B)) (10 ^ (3 * (fD n).j)) ((8 + V % 2) * 10 ^ (3 * (fD n).j)) ((8 + V % 2) * 10 ^ (3 * (fD n).j) + dlU (fD n).j (vR (fD n) B)) (10 ^ (3 * (fD n).j + 1)) (8 + V % 2) cO cS b30 b31 (by omega) cU hU hL (by rw [← Int.natCast_mul]; omega) (by rw [← Int.natCast_mul]; omega) o1 o2 o3 (by omega) (by omega) (by omega) cP (fun W v v' h1 h2 => (rtimes_nt (by decide) (by decide) h1 h2).mono fun r w' ⟨v, e1, e2, e3⟩ => ⟨v, e1, e2.more (by decide), e3⟩) (fun W v v' h1 h2 => (radd_nv (by decide) (by decide) h1.nv h2).mono fun r w' ⟨v, e1, e2, e3⟩ => ⟨v, e1, e2.more (by decide), e3⟩) rfl cQ (fun W v v' h1 h2 => rcmp_nv (by decide) (by decide) h1 h2) (sgn_below hClt) (fun W v hv => bits_nv hv)
theorem vmean_p {n : Int} (h : decN n) (hdn : (fD n).dn = false) (B : Nat) (w : World) (hB : B < 2 ^ 256) (h30 : vV (fD n).w (vG (fD n) B) ≠ 30) (h31 : vV (fD n).w (vG (fD n) B) ≠ 31) :
    Calls Tryd.prog 20 #[.int .i64 n, A4 B] w fun r w' => r = .returned (vM (fD n) B).v ∧ Below w.heap.size w w' := by
  have ho := fD_ok n
  obtain ⟨w6, w12, t20, t110, j2, j11, t64, l0, l1, H0, H1⟩ := ok_bounds ho
  have Cc := vc_of h B hB
  have hg := g_lim ho B
  have hr := vR_lt (fD n) B
  have p2 := p_200 (a := (fD n).t) (by omega)
  have p3 : (2 : Nat) ^ 220 < 2 ^ 256 := by decide
  have cO := Cc.cO
  have cS := Cc.cS
  rw [hdn] at cO cS
  have b30 : (((vV (fD n).w (vG (fD n) B) : Nat) : Int) == 30) = false := by rw [beq_eq_false_iff_ne]; omega
  have b31 : (((vV (fD n).w (vG (fD n) B) : Nat) : Int) == 31) = false := by rw [beq_eq_false_iff_ne]; omega
  have hH : (2 : Int) ^ (fD n).w = ((2 ^ (fD n).w : Nat) : Int) := (powCast _).symm
  have hV1 := Cc.hV1
  have hVe := Cc.hV
  have hvv : vV (fD n).w (vG (fD n) B) = vG (fD n) B / 2 ^ (fD n).w := rfl
  have hlow : vG (fD n) B % 2 ^ (fD n).w < 2 ^ (fD n).w := Nat.mod_lt _ (Nat.two_pow_pos _)
  have cQ : ∀ W, Calls Tryd.prog 30 #[.int .u64 10, .int .i64 (3 * ((fD n).j : Int) + 1)] W fun r w' => ∃ v, r = .returned v ∧ NV 50000 (10 ^ (3 * (fD n).j + 1)) v w' ∧ Below W.heap.size W w' := fun W => by
    have := rpowt_nv (3 * (fD n).j + 1) W (by omega)
    rw [show ((3 * (fD n).j + 1 : Nat) : Int) = 3 * ((fD n).j : Int) + 1 by omega] at this
    exact this
  have hU : vR (fD n) B < 2 ^ 256 := by omega
  have hgl := vG_lt (fD n) B
  have w5 : 2 ^ ((fD n).w + 5) = 32 * 2 ^ (fD n).w := by rw [Nat.pow_add, Nat.mul_comm]
  have w2 : 2 ^ ((fD n).w + 2) = 4 * 2 ^ (fD n).w := by rw [Nat.pow_add, Nat.mul_comm]
  have eM : vM (fD n) B = ⟨1, vS (fD n) B, false, (vF false (fD n).w (vG (fD n) B) : Int) + (fD n).l, if vL false (fD n).w (vG (fD n) B) * 2 ^ (fD n).t + vR (fD n) B < 10 ^ (3 * (fD n).j + 1) then vL false (fD n).w (vG (fD n) B) * 2 ^ (fD n).t + vR (fD n) B else 0⟩ := by
    have hq : vQ (fD n) = 2 ^ (fD n).t := by unfold vQ; rw [hdn]; rfl
    have ht : vT (fD n) (vR (fD n) B) = vR (fD n) B := by unfold vT; rw [hdn]; rfl
    unfold vM vD
    rw [if_neg h30, if_neg h31, hdn, hq, ht]
  rw [eM]
  have hDV : ∀ x : Int, (Dat.mk 1 (vS (fD n) B) false x 0).v = .agg #[.int .i64 1, .bool (vS (fD n) B), .bool false, .int .i64 x, .int .u64 0, .int .u64 0, .int .u64 0, .int .u64 0] := fun x => by unfold Dat.v DV; simp only [W4_zero]
  generalize vV (fD n).w (vG (fD n) B) = V at *
  by_cases h24 : V < 24
  · have eF : vF false (fD n).w (vG (fD n) B) = vG (fD n) B / 8 := by unfold vF vV; simp only [Bool.false_eq_true, if_false]; rw [← hvv, if_pos h24]
    have eL : vL false (fD n).w (vG (fD n) B) = vG (fD n) B % 8 := by unfold vL vV; simp only [Bool.false_eq_true, if_false]; rw [← hvv, if_pos h24]
    rw [eF, eL]
    have o2 := and_lay (vG (fD n) B) 3 (by decide) (by omega)
    rw [show (((2 ^ 3 : Nat) : Int) - 1) = 7 by decide, show vG (fD n) B % 2 ^ 3 = vG (fD n) B % 8 from rfl] at o2
    have hF : (vG (fD n) B : Int) / 8 = ((vG (fD n) B / 8 : Nat) : Int) := by omega
    by_cases hlt : vG (fD n) B % 8 * 2 ^ (fD n).t + vR (fD n) B < 10 ^ (3 * (fD n).j + 1)
    · rw [if_pos hlt]
      exact vmn_ps n _ _ _ _ _ _ _ _ _ _ B _ _ _ _ _ (fD n).w w (by omega) (by omega) (by omega) (by omega) (by omega) (by omega) Cc.hAb Cc.cF1 Cc.cF2 Cc.cF3 Cc.cM1 Cc.cM3 Cc.cB2 (by omega) w12 hVe (by omega) (by omega) Cc.hsg _ _ _ hH (by omega) (by omega) (by omega) (by omega) (by omega) (by omega) (by omega) (by omega) 0 0 0 _ 0 0 (vG (fD n) B % 8 * 2 ^ (fD n).t) _ (10 ^ (3 * (fD n).j + 1)) (vG (fD n) B % 8) cO cS b30 b31 (by omega) hF o2 hU (fun W v h1 => (rleft_nt (fD n).t (by decide) (by omega) h1).mono fun r w' ⟨v, e1, e2, e3⟩ => ⟨v, e1, e2.more (by omega), e3⟩) (fun W v v' h1 h2 => (radd_nv (by decide) (by decide) h1.nv h2).mono fun r w' ⟨v, e1, e2, e3⟩ => ⟨v, e1, e2.more (by decide), e3⟩) rfl cQ (fun W v v' h1 h2 => rcmp_nv (by decide) (by decide) h1 h2) (sgn_below hlt) (fun W v hv => bits_nv hv)
    · rw [if_neg hlt, hDV]
      exact vmn_pso n _ _ _ _ _ _ _ _ _ _ B _ _ _ _ _ (fD n).w w (by omega) (by omega) (by omega) (by omega) (by omega) (by omega) Cc.hAb Cc.cF1 Cc.cF2 Cc.cF3 Cc.cM1 Cc.cM3 Cc.cB2 (by omega) w12 hVe (by omega) (by omega) Cc.hsg _ _ _ hH (by omega) (by omega) (by omega) (by omega) (by omega) (by omega) (by omega) (by omega) 0 0 0 _ 0 0 (vG (fD n) B % 8 * 2 ^ (fD n).t) (vG (fD n) B % 8 * 2 ^ (fD n).t + vR (fD n) B) (10 ^ (3 * (fD n).j + 1)) (vG (fD n) B % 8) cO cS b30 b31 (by omega) hF o2 hU (fun W v h1 => (rleft_nt (fD n).t (by decide) (by omega) h1).mono fun r w' ⟨v, e1, e2, e3⟩ => ⟨v, e1, e2.more (by omega), e3⟩) (fun W v v' h1 h2 => (radd_nv (by decide) (by decide) h1.nv h2).mono fun r w' ⟨v, e1, e2, e3⟩ => ⟨v, e1, e2.more (by decide), e3⟩) rfl cQ (fun W v v' h1 h2 => rcmp_nv (by decide) (by decide) h1 h2) (sgn_above hlt) (fun W => bits_none W)
  · have eF : vF false (fD n).w (vG (fD n) B) = vG (fD n) B / 2 % 2 ^ ((fD n).w + 2) := by unfold vF vV; simp only [Bool.false_eq_true, if_false]; rw [← hvv, if_neg h24]
    have eL : vL false (fD n).w (vG (fD n) B) = 8 + vG (fD n) B % 2 := by unfold vL vV; simp only [Bool.false_eq_true, if_false]; rw [← hvv, if_neg h24]
    rw [eF, eL]
    have hm : vG (fD n) B / 2 % 2 ^ ((fD n).w + 2) < 2 ^ ((fD n).w + 2) := Nat.mod_lt _ (Nat.two_pow_pos _)
    have hH4 : (2 : Int) ^ ((fD n).w + 2) = ((2 ^ ((fD n).w + 2) : Nat) : Int) := (powCast _).symm
    have o1 := and_lay (vG (fD n) B / 2) ((fD n).w + 2) (by omega) (by omega)
    rw [show ((vG (fD n) B / 2 : Nat) : Int) = (vG (fD n) B : Int) / 2 by omega] at o1
    have o3 := and_lay (vG (fD n) B) 1 (by decide) (by omega)
    rw [show (((2 ^ 1 : Nat) : Int) - 1) = 1 by decide, show vG (fD n) B % 2 ^ 1 = vG (fD n) B % 2 from rfl] at o3
    by_cases hlt : (8 + vG (fD n) B % 2) * 2 ^ (fD n).t + vR (fD n) B < 10 ^ (3 * (fD n).j + 1)
    · rw [if_pos hlt]
      exact vmn_pb n _ _ _ _ _ _ _ _ _ _ B _ _ _ _ _ (fD n).w w (by omega) (by omega) (by omega) (by omega) (by omega) (by omega) Cc.hAb Cc.cF1 Cc.cF2 Cc.cF3 Cc.cM1 Cc.cM3 Cc.cB2 (by omega) w12 hVe (by omega) (by omega) Cc.hsg _ _ ((8 + vG (fD n) B % 2 : Nat) : Int) hH (by omega) (by omega) (by omega) (by omega) (by omega) (by omega) (by omega) (by omega) 0 ((vG (fD n) B % 2 : Nat) : Int) ((2 ^ ((fD n).w + 2) : Nat) : Int) _ 0 0 ((8 + vG (fD n) B % 2) * 2 ^ (fD n).t) _ (10 ^ (3 * (fD n).j + 1)) (8 + vG (fD n) B % 2) cO cS b30 b31 (by omega) hH4 (by omega) (by omega) o1 o3 (by omega) (by omega) (by omega) hU (fun W v h1 => (rleft_nt (fD n).t (by decide) (by omega) h1).mono fun r w' ⟨v, e1, e2, e3⟩ => ⟨v, e1, e2.more (by omega), e3⟩) (fun W v v' h1 h2 => (radd_nv (by decide) (by decide) h1.nv h2).mono fun r w' ⟨v, e1, e2, e3⟩ => ⟨v, e1, e2.more (by decide), e3⟩) rfl cQ (fun W v v' h1 h2 => rcmp_nv (by decide) (by decide) h1 h2) (sgn_below hlt) (fun W v hv => bits_nv hv)
    · rw [if_neg hlt, hDV]
      exact vmn_pbo n _ _ _ _ _ _ _ _ _ _ B _ _ _ _ _ (fD n).w w (by omega) (by omega) (by omega) (by omega) (by omega) (by omega) Cc.hAb Cc.cF1 Cc.cF2 Cc.cF3 Cc.cM1 Cc.cM3 Cc.cB2 (by omega) w12 hVe (by omega) (by omega) Cc.hsg _ _ ((8 + vG (fD n) B % 2 : Nat) : Int) hH (by omega) (by omega) (by omega) (by omega) (by omega) (by omega) (by omega) (by omega) 0 ((vG (fD n) B % 2 : Nat) : Int) ((2 ^ ((fD n).w + 2) : Nat) : Int) _ 0 0 ((8 + vG (fD n) B % 2) * 2 ^ (fD n).t) ((8 + vG (fD n) B % 2) * 2 ^ (fD n).t + vR (fD n) B) (10 ^ (3 * (fD n).j + 1)) (8 + vG (fD n) B % 2) cO cS b30 b31 (by omega) hH4 (by omega) (by omega) o1 o3 (by omega) (by omega) (by omega) hU (fun W v h1 => (rleft_nt (fD n).t (by decide) (by omega) h1).mono fun r w' ⟨v, e1, e2, e3⟩ => ⟨v, e1, e2.more (by omega), e3⟩) (fun W v v' h1 h2 => (radd_nv (by decide) (by decide) h1.nv h2).mono fun r w' ⟨v, e1, e2, e3⟩ => ⟨v, e1, e2.more (by decide), e3⟩) rfl cQ (fun W v v' h1 h2 => rcmp_nv (by decide) (by decide) h1 h2) (sgn_above hlt) (fun W => bits_none W)
theorem rmean14 {n : Int} (h : decN n) (B : Nat) (w : World) (hB : B < 2 ^ 256) :
    Calls Tryd.prog 20 #[.int .i64 n, A4 B] w fun r w' => r = .returned (vM (fD n) B).v ∧ Below w.heap.size w w' := by
  by_cases e : vV (fD n).w (vG (fD n) B) = 30 ∨ vV (fD n).w (vG (fD n) B) = 31
  · exact vmean_s h B w hB e
  · cases hdn : (fD n).dn
    · exact vmean_p h hdn B w hB (fun q => e (Or.inl q)) (fun q => e (Or.inr q))
    · exact vmean_d h hdn B w hB (fun q => e (Or.inl q)) (fun q => e (Or.inr q))
end Go.Proofs.YtjjaamdgochilaaDoor

namespace Go.Proofs.YtjjaamdgochilaaDoor
open Go.RowKit
/-- Unpack's answer -/
def vUD (n : Int) (B : Nat) : Dat := if goodD n B then vM (fD n) B else ⟨0, false, false, 0, 0⟩
def vUC (n : Int) (B : Nat) : Bool := decide (goodD n B ∧ vP (fD n) (vM (fD n) B) = B)
def vUE (n : Int) (B : Nat) : Int := if goodD n B then 0 else 1
/-- Canonical's answer -/
def vCV (n : Int) (B : Nat) : Nat := if goodD n B then vP (fD n) (vM (fD n) B) else 0
theorem goodD_256 {n : Int} {B : Nat} (h : goodD n B) : B < 2 ^ 256 := by
  obtain ⟨w6, w12, t20, t110, _⟩ := ok_bounds (fD_ok n)
  exact Nat.lt_of_lt_of_le h.2 (Nat.pow_le_pow_right (by decide) (by omega))
theorem eq_words {X Y : Nat} (hX : X < 2 ^ 256) (hY : Y < 2 ^ 256) : decide (W4 X 0 = W4 Y 0 ∧ W4 X 1 = W4 Y 1 ∧ W4 X 2 = W4 Y 2 ∧ W4 X 3 = W4 Y 3) = decide (X = Y) := by
  refine decide_eq_decide.2 ⟨fun ⟨h0, h1, h2, h3⟩ => A4_inj hX hY fun i hi => ?_, fun h => by rw [h]; exact ⟨rfl, rfl, rfl, rfl⟩⟩
  have : i = 0 ∨ i = 1 ∨ i = 2 ∨ i = 3 := by omega
  rcases this with rfl | rfl | rfl | rfl
  · exact h0
  · exact h1
  · exact h2
  · exact h3
attribute [local irreducible] W4
section
variable (n : Int) (B : Nat) (w : World)
set_option maxHeartbeats 1000000 in
theorem vun_n (c16 : ∀ W, Calls Tryd.prog 19 #[.int .i64 n, A4 B] W fun r w' => r = .returned (.bool false) ∧ Below W.heap.size W w') :
    Calls Tryd.prog 11 #[.int .i64 n, A4 B] w fun r w' => r = .returned (.tuple #[.agg #[.int .i64 0, .bool false, .bool false, .int .i64 0, .int .u64 0, .int .u64 0, .int .u64 0, .int .u64 0], .bool false, .int .i64 1]) ∧ Below w.heap.size w w' := by
  have hsm := cell_set_map
  go_enter Tryd.func11, Tryd.ntmps11
  go_wp2_with (go_at_call 19; refine (c16 _).mono ?_; rintro r w1 ⟨rfl, hb1⟩; obtain ⟨hc1, hf1⟩ := bcell hb1; have hz1_0 : w.heap.size < w1.heap.size := lt_below hb1 ltg; have hl1_0 := Nat.le_of_lt hz1_0; have hz1_1 : w.heap.size + 1 < w1.heap.size := lt_below hb1 ltg; have hl1_1 := Nat.le_of_lt hz1_1; have hA1 := bnext (w0 := w) bgo hb1; have hs1 := hA1.size; clear hb1)
  exact bodyPost_ret (by simp only [results, Tryd.results11]; go_simp) rfl ⟨rfl, bgo⟩
set_option maxHeartbeats 4000000 in
theorem vun_y (c x : Int) (s g : Bool) (k P : Nat) (E : Int) (R : Bool) (hR : decide (W4 P 0 = W4 B 0 ∧ W4 P 1 = W4 B 1 ∧ W4 P 2 = W4 B 2 ∧ W4 P 3 = W4 B 3) = R)
    (c16 : ∀ W, Calls Tryd.prog 19 #[.int .i64 n, A4 B] W fun r w' => r = .returned (.bool true) ∧ Below W.heap.size W w')
    (c17 : ∀ W, Calls Tryd.prog 20 #[.int .i64 n, A4 B] W fun r w' => r = .returned (DV c s g x k) ∧ Below W.heap.size W w')
    (c13 : ∀ W, Calls Tryd.prog 13 #[.int .i64 n, DV c s g x k] W fun r w' => r = .returned (.tuple #[A4 P, .int .i64 E]) ∧ Below W.heap.size W w') :
    Calls Tryd.prog 11 #[.int .i64 n, A4 B] w fun r w' => r = .returned (.tuple #[DV c s g x k, .bool R, .int .i64 0]) ∧ Below w.heap.size w w' := by
  have h24 := eq24 (W4 P 0) (W4 P 1) (W4 P 2) (W4 P 3) (W4 B 0) (W4 B 1) (W4 B 2) (W4 B 3)
  rw [hR] at h24
  clear hR
  have hsm := cell_set_map
  unfold DV A4 at *
  go_enter Tryd.func11, Tryd.ntmps11
  go_wp2_with (first
    | (go_at_call 19; refine (c16 _).mono ?_; rintro r w1 ⟨rfl, hb1⟩; obtain ⟨hc1, hf1⟩ := bcell hb1; have hz1_0 : w.heap.size < w1.heap.size := lt_below hb1 ltg; have hl1_0 := Nat.le_of_lt hz1_0; have hz1_1 : w.heap.size + 1 < w1.heap.size := lt_below hb1 ltg; have hl1_1 := Nat.le_of_lt hz1_1; have hA1 := bnext (w0 := w) bgo hb1; have hs1 := hA1.size; clear hb1)
    | (go_at_call 20; refine (c17 _).mono ?_; rintro r w2 ⟨rfl, hb2⟩; obtain ⟨hc2, hf2⟩ := bcell hb2; have hz2_0 : w.heap.size < w2.heap.size := lt_below hb2 ltg; have hl2_0 := Nat.le_of_lt hz2_0; have hz2_1 : w.heap.size + 1 < w2.heap.size := lt_below hb2 ltg; have hl2_1 := Nat.le_of_lt hz2_1; have hA2 := bnext (w0 := w) bgo hb2; have hs2 := hA2.size; clear hb2)
    | (go_at_call 13; refine (c13 _).mono ?_; rintro r w3 ⟨rfl, hb3⟩; obtain ⟨hc3, hf3⟩ := bcell hb3; have hz3_0 : w.heap.size < w3.heap.size := lt_below hb3 ltg; have hl3_0 := Nat.le_of_lt hz3_0; have hz3_1 : w.heap.size + 1 < w3.heap.size := lt_below hb3 ltg; have hl3_1 := Nat.le_of_lt hz3_1; have hz3_2 : w2.heap.size < w3.heap.size := lt_below hb3 ltg; have hl3_2 := Nat.le_of_lt hz3_2; have hA3 := bnext (w0 := w) bgo hb3; have hs3 := hA3.size; clear hb3))
  go_region_with (fail)
  all_goals go_wp2
  all_goals exact bodyPost_ret (by simp only [results, Tryd.results11]; go_simp) rfl ⟨rfl, bgo⟩
set_option maxHeartbeats 1000000 in
theorem vcn_n (c11 : ∀ W, Calls Tryd.prog 11 #[.int .i64 n, A4 B] W fun r w' => r = .returned (.tuple #[.agg #[.int .i64 0, .bool false, .bool false, .int .i64 0, .int .u64 0, .int .u64 0, .int .u64 0, .int .u64 0], .bool false, .int .i64 1]) ∧ Below W.heap.size W w') :
    Calls Tryd.prog 15 #[.int .i64 n, A4 B] w fun r w' => r = .returned (.tuple #[Z4, .int .i64 1]) ∧ Below w.heap.size w w' := by
  have hsm := cell_set_map
  go_enter Tryd.func15, Tryd.ntmps15
  go_wp2_with (go_at_call 11; refine (c11 _).mono ?_; rintro r w1 ⟨rfl, hb1⟩; obtain ⟨hc1, hf1⟩ := bcell hb1; have hz1_0 : w.heap.size < w1.heap.size := lt_below hb1 ltg; have hl1_0 := Nat.le_of_lt hz1_0; have hz1_1 : w.heap.size + 1 < w1.heap.size := lt_below hb1 ltg; have hl1_1 := Nat.le_of_lt hz1_1; have hA1 := bnext (w0 := w) bgo hb1; have hs1 := hA1.size; clear hb1)
  exact bodyPost_ret (by simp only [results, Tryd.results15]; go_simp) rfl ⟨rfl, bgo⟩
set_option maxHeartbeats 1000000 in
theorem vcn_y (c x : Int) (s g R : Bool) (k P : Nat) (E : Int)
    (c11 : ∀ W, Calls Tryd.prog 11 #[.int .i64 n, A4 B] W fun r w' => r = .returned (.tuple #[DV c s g x k, .bool R, .int .i64 0]) ∧ Below W.heap.size W w')
    (c13 : ∀ W, Calls Tryd.prog 13 #[.int .i64 n, DV c s g x k] W fun r w' => r = .returned (.tuple #[A4 P, .int .i64 E]) ∧ Below W.heap.size W w') :
    Calls Tryd.prog 15 #[.int .i64 n, A4 B] w fun r w' => r = .returned (.tuple #[A4 P, .int .i64 E]) ∧ Below w.heap.size w w' := by
  have hsm := cell_set_map
  unfold DV A4 at *
  go_enter Tryd.func15, Tryd.ntmps15
  go_wp2_with (first
    | (go_at_call 11; refine (c11 _).mono ?_; rintro r w1 ⟨rfl, hb1⟩; obtain ⟨hc1, hf1⟩ := bcell hb1; have hz1_0 : w.heap.size < w1.heap.size := lt_below hb1 ltg; have hl1_0 := Nat.le_of_lt hz1_0; have hz1_1 : w.heap.size + 1 < w1.heap.size := lt_below hb1 ltg; have hl1_1 := Nat.le_of_lt hz1_1; have hA1 := bnext (w0 := w) bgo hb1; have hs1 := hA1.size; clear hb1)
    | (go_at_call 13; refine (c13 _).mono ?_; rintro r w2 ⟨rfl, hb2⟩; obtain ⟨hc2, hf2⟩ := bcell hb2; have hz2_0 : w.heap.size < w2.heap.size := lt_below hb2 ltg; have hl2_0 := Nat.le_of_lt hz2_0; have hz2_1 : w.heap.size + 1 < w2.heap.size := lt_below hb2 ltg; have hl2_1 := Nat.le_of_lt hz2_1; have hz2_2 : w1.heap.size < w2.heap.size := lt_below hb2 ltg; have hl2_2 := Nat.le_of_lt hz2_2; have hA2 := bnext (w0 := w) bgo hb2; have hs2 := hA2.size; clear hb2))
  exact bodyPost_ret (by simp only [results, Tryd.results15]; go_simp) rfl ⟨rfl, bgo⟩
end
theorem zero_v : (Dat.mk 0 false false 0 0).v = .agg #[.int .i64 0, .bool false, .bool false, .int .i64 0, .int .u64 0, .int .u64 0, .int .u64 0, .int .u64 0] := by unfold Dat.v DV; simp only [W4_zero]
theorem vPV_of {n : Int} {B : Nat} (h : goodD n B) : vPV n (vM (fD n) B) = vP (fD n) (vM (fD n) B) ∧ vPE n (vM (fD n) B) = 0 := by
  have hi := vM_is (fD_ok n) B
  unfold vPV vPE
  exact ⟨if_pos ⟨h.1, hi⟩, by rw [if_pos h.1, if_pos hi]⟩
theorem runp14 (n : Int) (B : Nat) (w : World) (hB : B < 2 ^ 256) :
    Calls Tryd.prog 11 #[.int .i64 n, A4 B] w fun r w' => r = .returned (.tuple #[(vUD n B).v, .bool (vUC n B), .int .i64 (vUE n B)]) ∧ Below w.heap.size w w' := by
  have c16 := fun W => rgood14 n B hB W
  unfold vUD vUC vUE
  by_cases h : goodD n B
  · rw [if_pos h, if_pos h]
    rw [decide_eq_true h] at c16
    obtain ⟨e1, e2⟩ := vPV_of h
    have c13 := fun W => rpk14 n (vM (fD n) B) W (vM_256 (fD_ok n) B)
    rw [e1] at c13
    refine vun_y n B w _ _ _ _ _ _ _ _ ?_ c16 (fun W => rmean14 h.1 B W hB) c13
    rw [eq_words (vP_256 (fD_ok n) (vM_is (fD_ok n) B)) hB]
    exact decide_eq_decide.2 ⟨fun q => ⟨h, q⟩, fun q => q.2⟩
  · rw [if_neg h, if_neg h, decide_eq_false (fun q => h q.1), zero_v]
    rw [decide_eq_false h] at c16
    exact vun_n n B w c16
theorem rcan14 (n : Int) (B : Nat) (w : World) (hB : B < 2 ^ 256) :
    Calls Tryd.prog 15 #[.int .i64 n, A4 B] w fun r w' => r = .returned (.tuple #[A4 (vCV n B), .int .i64 (vUE n B)]) ∧ Below w.heap.size w w' := by
  have c11 := fun W => runp14 n B W hB
  unfold vCV vUE
  unfold vUD vUC vUE at c11
  by_cases h : goodD n B
  · rw [if_pos h, if_pos h]
    rw [if_pos h, if_pos h] at c11
    obtain ⟨e1, e2⟩ := vPV_of h
    have c13 := fun W => rpk14 n (vM (fD n) B) W (vM_256 (fD_ok n) B)
    rw [e1, e2] at c13
    exact vcn_y n B w _ _ _ _ _ _ _ _ c11 c13
  · rw [if_neg h, if_neg h, Z4_eq]
    rw [if_neg h, if_neg h, decide_eq_false (fun q => h q.1), zero_v] at c11
    exact vcn_n n B w c11
end Go.Proofs.YtjjaamdgochilaaDoor

namespace Go.Proofs.YtjjaamdgochilaaDoor
open Go.RowKit
theorem vT_256 {f : DF} (h : f.ok) {R : Nat} (hR : R < 2 ^ f.t) : vT f R < 2 ^ 128 := by
  have hw := h.w12
  have := ten_128 h
  cases hd : f.dn
  · unfold vT; rw [hd, if_neg (by decide)]; exact Nat.lt_of_lt_of_le hR (Nat.pow_le_pow_right (by decide) (by omega))
  · exact Nat.lt_trans (vT_lt h hd R) this.2
theorem vL_9 {f : DF} (dn : Bool) (w G : Nat) : vL dn w G ≤ 9 := by
  unfold vL
  cases dn <;> simp only [Bool.false_eq_true, if_false, if_true] <;> split <;> omega
theorem sgn_ge (A B : Nat) : 0 ≤ sgn (A : Int) (B : Int) ↔ ¬ A < B := by
  unfold sgn
  by_cases h : (A : Int) < (B : Int)
  · rw [if_pos h]; constructor
    · intro q; exact absurd q (by decide)
    · intro q; omega
  · rw [if_neg h]; constructor
    · intro _; omega
    · intro _; split <;> decide
section
variable {f : DF} (h : f.ok)
include h
set_option maxHeartbeats 1000000 in
theorem fmean (B : Nat) (w : World) (hB : B < 2 ^ 256) : Calls Tryd.prog 17 #[LF f, A4 B] w fun r w' => r = .returned (vM f B).v ∧ Below w.heap.size w w' := by
  have hw := h.w12
  have hG := vG_lt f B
  have hR := vR_lt f B
  have cs := fun W => fsplit h B W hB
  have ck := fun W => fkind h (vG f B) W hG
  have cr := fun W => fread h (vR f B) W hR
  have hU := vT_256 h hR
  have h10 := ten_128 h
  have e256 : (2 : Nat) ^ 128 * 2 ^ 4 < 2 ^ 256 := by decide
  unfold vM vD
  generalize vG f B = G at *
  generalize vR f B = R at *
  generalize vS f B = s at *
  by_cases h30 : vV f.w G = 30
  · rw [if_pos h30]
    exact dmean_i _ _ _ _ _ _ _ _ _ w B R s (G : Int) _ cs ck (by rw [h30]; rfl)
  · rw [if_neg h30]
    have e30 : (((vV f.w G : Nat) : Int) == 30) = false := by rw [show (30 : Int) = ((30 : Nat) : Int) from rfl, beq_dec]; exact decide_eq_false h30
    by_cases h31 : vV f.w G = 31
    · rw [if_pos h31]
      exact dmean_n _ _ _ _ _ _ _ _ _ w B R s (G : Int) _ cs ck (vT f R) _ cr _ e30 (by rw [h31]; rfl) (fun W => fsig h G W hG) (fun W => nought_v (vT f R) (10 ^ (3 * f.j)) W (by omega) (by omega))
    · rw [if_neg h31]
      have e31 : (((vV f.w G : Nat) : Int) == 31) = false := by rw [show (31 : Int) = ((31 : Nat) : Int) from rfl, beq_dec]; exact decide_eq_false h31
      have hL := vL_9 (f := f) f.dn f.w G
      have hq := vQ_256 h
      have hm : vL f.dn f.w G * vQ f ≤ 2 ^ 4 * 2 ^ 128 := Nat.mul_le_mul (by omega) (by omega)
      have cm := fun W => mul4 (vQ f) (vL f.dn f.w G) W (by omega) (by omega)
      rw [Nat.mul_comm (vQ f)] at cm
      have hF : vF f.dn f.w G < 1000000 := by
        unfold vF vV
        rcases h with ⟨h1, h2, h3, h4⟩ | ⟨h1, h2, h3, h4⟩ | ⟨h1, h2, h3, h4⟩ <;> rw [h2] at hG ⊢ <;> cases f.dn <;> simp only [Bool.false_eq_true, if_false, if_true] <;> simp only [Nat.reducePow, Nat.reduceAdd] at * <;> split <;> omega
      have hl : -1000000 ≤ f.l ∧ f.l ≤ 1000000 := by rcases h with ⟨h1, h2, h3, h4⟩ | ⟨h1, h2, h3, h4⟩ | ⟨h1, h2, h3, h4⟩ <;> omega
      have e5 : (2 : Nat) ^ 4 * 2 ^ 128 + 2 ^ 128 < 2 ^ 256 := by decide
      exact dmean_f _ _ _ _ _ _ _ _ _ w B R s (G : Int) _ cs ck (vT f R) _ cr _ _ _ _ _ _ e30 e31 (by omega) (by omega) hl.1 hl.2 (fun W => fpart h G W hG) cm (fun W => add4 _ _ W (by omega) (by omega)) (fun W => nought_v _ (10 ^ (3 * f.j + 1)) W (by omega) (by omega))
set_option maxHeartbeats 2000000 in
theorem fpack (d : Dat) (w : World) (hk : d.k < 2 ^ 256) : Calls Tryd.prog 18 #[LF f, d.v] w fun r w' => r = .returned (.tuple #[A4 (if vI f d then vP f d else 0), .int .i64 (if vI f d then 0 else 3)]) ∧ Below w.heap.size w w' := by
  have hw := h.w12
  have h10 := ten_128 h
  have hq := vQ_256 h
  have e256 : (2 : Nat) ^ 128 < 2 ^ 256 := by decide
  have hl : -1000000 ≤ f.l ∧ f.l ≤ 0 := by rcases h with ⟨h1, h2, h3, h4⟩ | ⟨h1, h2, h3, h4⟩ | ⟨h1, h2, h3, h4⟩ <;> omega
  have hw3 : (3 * 2 ^ f.w : Nat) ≤ 3 * 2 ^ 12 := Nat.mul_le_mul (Nat.le_refl _) (Nat.pow_le_pow_right (by decide) (by omega))
  have ei : ((3 * 2 ^ f.w : Nat) : Int) = 3 * 2 ^ f.w := by rw [Int.natCast_mul, i2pow]; rfl
  obtain ⟨c, s, g, x, k⟩ := d
  simp only at hk
  by_cases h1 : c = 1
  · subst h1
    refine dpack_1 _ _ _ _ _ _ _ _ _ w x s g k _ _ ?_
    intro W
    by_cases hi : vI f ⟨1, s, g, x, k⟩
    · rw [if_pos hi, if_pos hi]
      have hPG := vPG_lt h hi
      have hPR := vPR_lt h hi
      obtain ⟨_, hg, hk10, hx0, hx1⟩ : (1 : Int) = 1 ∧ g = false ∧ k < 10 ^ (3 * f.j + 1) ∧ f.l ≤ x ∧ x ≤ f.l + 3 * 2 ^ f.w - 1 := by
        rcases hi with hi | hi | hi
        · exact hi
        · exact absurd (show (1 : Int) = 2 from hi.1) (by decide)
        · exact absurd (show (1 : Int) = 3 from hi.1) (by decide)
      subst hg
      have hqp : 0 < vQ f := by
        unfold vQ; cases f.dn <;> simp only [Bool.false_eq_true, if_false, if_true]
        · exact Nat.two_pow_pos _
        · exact Nat.pow_pos (by decide)
      have hm9 : k / vQ f ≤ 9 := by
        unfold vQ
        rcases h with ⟨h1, h2, h3, h4⟩ | ⟨h1, h2, h3, h4⟩ | ⟨h1, h2, h3, h4⟩ <;> rw [h3] at hk10 ⊢ <;> rw [h1] <;> cases f.dn <;> simp only [Bool.false_eq_true, if_false, if_true] <;> simp only [Nat.reducePow, Nat.reduceAdd, Nat.reduceMul] at * <;> omega
      have hmod : k - k / vQ f * vQ f = k % vQ f := by have := Nat.div_add_mod' k (vQ f); omega
      have hlt := Nat.mod_lt k hqp
      have hE : (x - f.l).toNat < 3 * 2 ^ f.w := by omega
      have hEi : x - f.l = (((x - f.l).toNat : Nat) : Int) := by omega
      have cn := fun W => funite h (x - f.l).toNat (k / vQ f) W hE hm9
      rw [← hEi] at cn
      have hvN : vPG f ⟨1, s, false, x, k⟩ = vN f.dn f.w (x - f.l).toNat (k / vQ f) := rfl
      rw [← hvN] at cn
      have hR0 : ∀ i, k - i * vQ f < 2 ^ 256 := fun i => by omega
      have cw := fun W => fwrite h (k - k / vQ f * vQ f) W (hR0 _) (fun hd => by
        rw [hmod, ← ten3]
        have : vQ f = 10 ^ (3 * f.j) := by unfold vQ; rw [hd, if_pos rfl]
        rw [this] at hlt ⊢
        exact hlt)
      have ew : (if f.dn = true then dlP f.j (k - k / vQ f * vQ f) else k - k / vQ f * vQ f) = vPR f ⟨1, s, false, x, k⟩ := by
        rw [hmod]
        unfold vPR vQ
        simp only [show ¬ ((1 : Int) = 2) by decide, show ¬ ((1 : Int) = 3) by decide, if_false]
        cases f.dn <;> simp
      rw [ew] at cw
      have cj := fun W => fjoin h s _ _ W hPG hPR
      refine dfin_y _ _ _ _ _ _ _ _ _ W x s k _ _ (fun W => cmp4 k _ W hk (by omega)) (by omega) (by omega) (by rw [sgn_ge]; omega) (k / vQ f) (by omega) (fun i => k - i * vQ f) (fun i => sgn ((k - i * vQ f : Nat) : Int) (vQ f : Int)) (fun i => if k - i * vQ f < vQ f then 1 else 0) (by simp) _ hl.1 (by omega) (by omega) _ ?_ ?_ ?_ ?_ cn cw cj
      · show ∀ _, _
        intro i hi W
        exact cmp4 _ _ W (hR0 i) (by omega)
      · show ∀ _, _
        intro i hi
        rw [sgn_ge]
        have : (i + 1) * vQ f ≤ k := Nat.le_trans (Nat.mul_le_mul_right _ hi) (Nat.div_mul_le_self _ _)
        rw [Nat.add_mul, Nat.one_mul] at this
        omega
      · show ¬ _
        rw [sgn_ge, hmod]; omega
      · show ∀ _, _
        intro i hi W
        have : (i + 1) * vQ f ≤ k := Nat.le_trans (Nat.mul_le_mul_right _ hi) (Nat.div_mul_le_self _ _)
        have e : k - (i + 1) * vQ f = k - i * vQ f - vQ f := by rw [Nat.add_mul, Nat.one_mul]; omega
        rw [Nat.add_mul, Nat.one_mul] at this
        have c := sub4 (k - i * vQ f) (vQ f) W (hR0 i) (by omega)
        rw [A4_sub (by omega), ← e] at c
        exact c
    · rw [if_neg hi, if_neg hi]
      cases g
      · by_cases a1 : x < f.l
        · exact dfin_l _ _ _ _ _ _ _ _ _ W x s k a1
        · by_cases a2 : f.l + 3 * 2 ^ f.w - 1 < x
          · exact dfin_m _ _ _ _ _ _ _ _ _ W x s k a1 a2
          · have a3 : ¬ k < 10 ^ (3 * f.j + 1) := fun q => hi (Or.inl ⟨rfl, rfl, q, (by omega : f.l ≤ x), (by omega : x ≤ f.l + 3 * 2 ^ f.w - 1)⟩)
            exact dfin_k _ _ _ _ _ _ _ _ _ W x s k _ (fun W => cmp4 k _ W hk (by omega)) a1 a2 ((sgn_ge _ _).2 a3)
      · exact dfin_s _ _ _ _ _ _ _ _ _ W x s k
  · by_cases h2 : c = 2
    · subst h2
      refine dpack_2 _ _ _ _ _ _ _ _ _ w x s g k _ _ ?_
      intro W
      by_cases hi : vI f ⟨2, s, g, x, k⟩
      · rw [if_pos hi, if_pos hi]
        have hPG := vPG_lt h hi
        obtain ⟨_, hg, hk0, hx0⟩ : (2 : Int) = 2 ∧ g = false ∧ k = 0 ∧ x = 0 := by
          rcases hi with hi | hi | hi
          · exact absurd (show (2 : Int) = 1 from hi.1) (by decide)
          · exact hi
          · exact absurd (show (2 : Int) = 3 from hi.1) (by decide)
        subst hg hk0 hx0
        have cp := fun W => fspec h 30 false W (by decide)
        have cj := fun W => fjoin h s _ 0 W hPG (Nat.two_pow_pos _)
        rw [Z4_eq] at cj
        exact dinf_y _ _ _ _ _ _ _ _ _ W s _ _ cp cj
      · rw [if_neg hi, if_neg hi]
        cases g
        · by_cases a1 : x = 0
          · subst a1
            refine dinf_k _ _ _ _ _ _ _ _ _ W s k (decide_eq_false fun q => hi (Or.inr (Or.inl ⟨rfl, rfl, ?_, rfl⟩)))
            refine A4_inj hk (by decide) fun i hi => ?_
            rw [W4_zero]
            rcases (show i = 0 ∨ i = 1 ∨ i = 2 ∨ i = 3 by omega) with e | e | e | e <;> subst e
            · exact q.1
            · exact q.2.1
            · exact q.2.2.1
            · exact q.2.2.2
          · exact dinf_x _ _ _ _ _ _ _ _ _ W x s k (by simp [a1])
        · exact dinf_s _ _ _ _ _ _ _ _ _ W x s k
    · by_cases h3 : c = 3
      · subst h3
        refine dpack_3 _ _ _ _ _ _ _ _ _ w x s g k _ _ ?_
        intro W
        by_cases hi : vI f ⟨3, s, g, x, k⟩
        · rw [if_pos hi, if_pos hi]
          have hPG := vPG_lt h hi
          have hPR := vPR_lt h hi
          obtain ⟨_, hx0, hk10⟩ : (3 : Int) = 3 ∧ x = 0 ∧ k < 10 ^ (3 * f.j) := by
            rcases hi with hi | hi | hi
            · exact absurd (show (3 : Int) = 1 from hi.1) (by decide)
            · exact absurd (show (3 : Int) = 2 from hi.1) (by decide)
            · exact hi
          subst hx0
          have cp := fun W => fspec h 31 g W (by decide)
          have cw := fun W => fwrite h k W hk (fun _ => by rw [← ten3]; exact hk10)
          have cj := fun W => fjoin h s _ _ W hPG hPR
          exact dnan_y _ _ _ _ _ _ _ _ _ W s g k _ _ _ (fun W => cmp4 k _ W hk (by omega)) _ (by rw [sgn_ge]; omega) cp cw cj
        · rw [if_neg hi, if_neg hi]
          by_cases a1 : x = 0
          · subst a1
            have a3 : ¬ k < 10 ^ (3 * f.j) := fun q => hi (Or.inr (Or.inr ⟨rfl, rfl, q⟩))
            exact dnan_k _ _ _ _ _ _ _ _ _ W s g k _ (fun W => cmp4 k _ W hk (by omega)) ((sgn_ge _ _).2 a3)
          · exact dnan_x _ _ _ _ _ _ _ _ _ W x s g k (by simp [a1])
      · have hi : ¬ vI f ⟨c, s, g, x, k⟩ := by
          rintro (q | q | q)
          · exact h1 q.1
          · exact h2 q.1
          · exact h3 q.1
        rw [if_neg hi, if_neg hi]
        exact dpack_0 _ _ _ _ _ _ _ _ _ w c x s g k (by simp [h1]) (by simp [h2]) (by simp [h3])
end
end Go.Proofs.YtjjaamdgochilaaDoor
