/-
  Texts that the proof leans on.
-/
import Derived.Test.YtpemdcnneabbfaaDoorJ35
import Derived.Test.YtpemdcnneabbfaaDoorJ36
import Derived.Test.YtpemdcnneabbfaaDoorJ37
import Derived.Test.YtpemdcnneabbfaaDoorJ39
import Derived.Test.YtpemdcnneabbfaaDoorJ38
import Derived.Laws.Bits64b
import Derived.Test.YtpemdcnneabbfaaDoorJ3
import Derived.Test.YtpemdcnneabbfaaDoorJ28
import Derived.Test.YtpemdcnneabbfaaDoorJ24
import Derived.Deep.RegionWith
import Derived.StillTail
import Derived.Below
import Derived.WalkKit
import Derived.Deep.Cut
import Derived.Deep.CutRange
import Derived.Test.YtpemdcnneabbfaaDoorJ33
import Derived.Test.YtpemdcnneabbfaaDoorJ20
import Derived.Test.YtpemdcnneabbfaaDoorJ15
import Derived.Test.YtpemdcnneabbfaaDoorJ7
import Derived.Test.YtpemdcnneabbfaaDoorJ21
import Derived.Test.YtpemdcnneabbfaaDoorJ14
import Derived.Test.YtpemdcnneabbfaaDoorJ11
import Derived.Test.YtpemdcnneabbfaaDoorJ6
set_option linter.unusedVariables false
set_option linter.unusedSectionVars false
set_option linter.unusedSimpArgs false
set_option maxRecDepth 20000
namespace Go.Proofs.YtpemdcnneabbfaaDoor
open Go.RowKit
/-- what native's conversions of patterns answer -/
structure NatF (TT : World → Prop) : Prop where
  f6 : ∀ B W, B < 2 ^ 64 → TT W → Calls Tryd.prog 8 #[A4 B] W fun r w' => (r = .returned (.tuple #[.float .f64 B, .int .i64 0])) ∧ Below W.heap.size W w'
  f6n : ∀ B W, B < 2 ^ 256 → ¬ B < 2 ^ 64 → TT W → Calls Tryd.prog 8 #[A4 B] W fun r w' => (∃ z, r = .returned (.tuple #[.float .f64 z, .int .i64 1])) ∧ Below W.heap.size W w'
  f3 : ∀ B W, B < 2 ^ 32 → TT W → Calls Tryd.prog 9 #[A4 B] W fun r w' => (r = .returned (.tuple #[.float .f32 B, .int .i64 0])) ∧ Below W.heap.size W w'
  f3n : ∀ B W, B < 2 ^ 256 → ¬ B < 2 ^ 32 → TT W → Calls Tryd.prog 9 #[A4 B] W fun r w' => (∃ z, r = .returned (.tuple #[.float .f32 z, .int .i64 1])) ∧ Below W.heap.size W w'
  t6 : ∀ p W, p < 2 ^ 64 → (unD 4 p).c ≠ 3 → Calls Tryd.prog 11 #[.float .f64 p] W fun r w' => r = .returned (A4 p) ∧ Below W.heap.size W w'
  t3 : ∀ p W, p < 2 ^ 32 → (unD 3 p).c ≠ 3 → Calls Tryd.prog 14 #[.float .f32 p] W fun r w' => r = .returned (A4 p) ∧ Below W.heap.size W w'
theorem and32 {B : Nat} (hB : B < 18446744073709551616) : bits .and .u64 (B : Int) 4294967295 = ((B % 4294967296 : Nat) : Int) := by
  have h := bits_and_u64_nat B 4294967295 hB (by decide)
  have e := Nat.and_two_pow_sub_one_eq_mod B 32
  rw [show 2 ^ 32 - 1 = 4294967295 by decide, show (2 : Nat) ^ 32 = 4294967296 by decide] at e
  rw [e] at h
  exact h
theorem low_num {B : Nat} (h : B < 2 ^ 32) : (unD 4 B).c ≠ 3 := by
  have hg : goodN 4 B := ⟨by decide, Nat.lt_of_lt_of_le h (by decide)⟩
  have hf : fN 4 = 52 := by decide
  have he : eN 4 = 11 := by decide
  have h0 : B / 2 ^ 52 % 2 ^ 11 = 0 := by omega
  unfold unD
  rw [if_pos hg, hf, he]
  unfold unp
  rw [if_neg (by rw [h0]; decide), if_pos h0]
  exact fun e => absurd (show (1 : Int) = 3 from e) (by decide)
theorem ord_4 {B : Nat} (h : B < 2 ^ 64) : ((unD 4 B).c = 3 ∧ FloatKind.f64.format.order B B = none) ∨ ((unD 4 B).c ≠ 3 ∧ FloatKind.f64.format.order B B = some .eq) := by
  have e : FloatKind.f64.format.order B B = _ := fm_ord fmt_4 ⟨by decide, h⟩
  by_cases h3 : (unD 4 B).c = 3
  · exact Or.inl ⟨h3, e.trans (if_pos h3)⟩
  · exact Or.inr ⟨h3, e.trans (if_neg h3)⟩
theorem ord_3 {B : Nat} (h : B < 2 ^ 32) : ((unD 3 B).c = 3 ∧ FloatKind.f32.format.order B B = none) ∨ ((unD 3 B).c ≠ 3 ∧ FloatKind.f32.format.order B B = some .eq) := by
  have e : FloatKind.f32.format.order B B = _ := fm_ord fmt_3 ⟨by decide, h⟩
  by_cases h3 : (unD 3 B).c = 3
  · exact Or.inl ⟨h3, e.trans (if_pos h3)⟩
  · exact Or.inr ⟨h3, e.trans (if_neg h3)⟩
theorem bits21_v {TT : World → Prop} (h : NatN TT) (hF : NatF TT) (x y B : Nat) (w : World) (hT : TT w) (hx : x < 2 ^ 64) (hy : y < 2 ^ 32) (hB : B < 2 ^ 256) :
    Calls Tryd.prog 3 #[.int .u64 (x : Int), .int .u32 (y : Int), A4 B] w fun r w' => r = .returned (.bool true) ∧ Below w.heap.size w w' := by
  have c8 := fun W hW => awake21 h W hW
  have c40 := fun (h3 : (unD 4 x).c ≠ 3) W => hF.t6 x W hx h3
  have c43 := fun (h3 : (unD 3 y).c ≠ 3) W => hF.t3 y W hy h3
  rw [A4_sm21 (show x < 18446744073709551616 by omega)] at c40
  rw [A4_sm21 (show y < 18446744073709551616 by omega)] at c43
  have hN := h.next
  by_cases h6 : B < 2 ^ 64
  · have hB' : B < 18446744073709551616 := by omega
    have c37 := fun W hW => hF.f6 B W h6 hW
    rw [A4_sm21 hB'] at c37 ⊢
    by_cases h3 : B < 2 ^ 32
    · have c38 := fun W hW => hF.f3 B W h3 hW
      rw [A4_sm21 hB'] at c38
      have hand := and32 hB'
      rw [Nat.mod_eq_of_lt (show B < 4294967296 by omega)] at hand
      obtain ⟨_, of⟩ := (ord_4 h6).resolve_left (fun q => low_num h3 q.1)
      rcases ord_4 hx with ⟨_, ox⟩ | ⟨nx, ox⟩ <;> rcases ord_3 hy with ⟨_, oy⟩ | ⟨ny, oy⟩ <;> rcases ord_3 h3 with ⟨_, og⟩ | ⟨_, og⟩
      · exact nb21_Cnnen TT hN w hT c8 x y hx hy B hB' hand h3 ox oy of og c37 c38
      · exact nb21_Cnnee TT hN w hT c8 x y hx hy B hB' hand h3 ox oy of og c37 c38
      · exact nb21_Cneen TT hN w hT c8 x y hx hy B hB' hand h3 ox oy of og c37 c38 (c43 ny)
      · exact nb21_Cneee TT hN w hT c8 x y hx hy B hB' hand h3 ox oy of og c37 c38 (c43 ny)
      · exact nb21_Cenen TT hN w hT c8 x y hx hy B hB' hand h3 ox oy of og c37 c38 (c40 nx)
      · exact nb21_Cenee TT hN w hT c8 x y hx hy B hB' hand h3 ox oy of og c37 c38 (c40 nx)
      · exact nb21_Ceeen TT hN w hT c8 x y hx hy B hB' hand h3 ox oy of og c37 c38 (c40 nx) (c43 ny)
      · exact nb21_Ceeee TT hN w hT c8 x y hx hy B hB' hand h3 ox oy of og c37 c38 (c40 nx) (c43 ny)
    · have c38 := fun W hW => hF.f3n B W hB h3 hW
      rw [A4_sm21 hB'] at c38
      have hand := and32 hB'
      have hBM : B ≠ B % 4294967296 := by omega
      rcases ord_4 hx with ⟨_, ox⟩ | ⟨nx, ox⟩ <;> rcases ord_3 hy with ⟨_, oy⟩ | ⟨ny, oy⟩ <;> rcases ord_4 h6 with ⟨_, of⟩ | ⟨_, of⟩
      · exact nb21_Bnnn_ TT hN w hT c8 x y hx hy B _ hB' hand hBM ox oy of c37 c38
      · exact nb21_Bnne_ TT hN w hT c8 x y hx hy B _ hB' hand hBM ox oy of c37 c38
      · exact nb21_Bnen_ TT hN w hT c8 x y hx hy B _ hB' hand hBM ox oy of c37 c38 (c43 ny)
      · exact nb21_Bnee_ TT hN w hT c8 x y hx hy B _ hB' hand hBM ox oy of c37 c38 (c43 ny)
      · exact nb21_Benn_ TT hN w hT c8 x y hx hy B _ hB' hand hBM ox oy of c37 c38 (c40 nx)
      · exact nb21_Bene_ TT hN w hT c8 x y hx hy B _ hB' hand hBM ox oy of c37 c38 (c40 nx)
      · exact nb21_Been_ TT hN w hT c8 x y hx hy B _ hB' hand hBM ox oy of c37 c38 (c40 nx) (c43 ny)
      · exact nb21_Beee_ TT hN w hT c8 x y hx hy B _ hB' hand hBM ox oy of c37 c38 (c40 nx) (c43 ny)
  · have c37 := fun W hW => hF.f6n B W hB h6 hW
    have c38 := fun W hW => hF.f3n B W hB (by omega) hW
    have hL : B % 18446744073709551616 < 18446744073709551616 := Nat.mod_lt _ (by decide)
    have e0 : W4 B 0 = ((B % 18446744073709551616 : Nat) : Int) := by unfold W4; rw [Nat.mul_zero, Nat.pow_zero, Nat.div_one]
    have hb : ¬ (W4 B 1 = 0 ∧ W4 B 2 = 0 ∧ W4 B 3 = 0) := by
      rintro ⟨b1, b2, b3⟩
      have a := A4_sm21 hL
      simp only [A4, Value.agg.injEq, Array.mk.injEq, List.cons.injEq, Value.int.injEq, true_and, and_true] at a
      obtain ⟨a0, a1, a2, a3⟩ := a
      have := A4_inj (A := B) (B := B % 18446744073709551616) hB (by omega) (fun i hi => by
        have hor : i = 0 ∨ i = 1 ∨ i = 2 ∨ i = 3 := by omega
        rcases hor with rfl | rfl | rfl | rfl
        · rw [e0, a0]
        · rw [b1, a1]
        · rw [b2, a2]
        · rw [b3, a3])
      omega
    have hand := and32 hL
    have eA : A4 B = .agg #[.int .u64 ((B % 18446744073709551616 : Nat) : Int), .int .u64 (W4 B 1), .int .u64 (W4 B 2), .int .u64 (W4 B 3)] := by
      show Value.agg _ = _
      rw [e0]
    rw [eA] at c37 c38 ⊢
    rcases ord_4 hx with ⟨_, ox⟩ | ⟨nx, ox⟩ <;> rcases ord_3 hy with ⟨_, oy⟩ | ⟨ny, oy⟩
    · exact nb21_Ann__ TT hN w hT c8 x y hx hy _ _ hL hand _ _ _ hb ox oy c37 c38
    · exact nb21_Ane__ TT hN w hT c8 x y hx hy _ _ hL hand _ _ _ hb ox oy c37 c38 (c43 ny)
    · exact nb21_Aen__ TT hN w hT c8 x y hx hy _ _ hL hand _ _ _ hb ox oy c37 c38 (c40 nx)
    · exact nb21_Aee__ TT hN w hT c8 x y hx hy _ _ hL hand _ _ _ hb ox oy c37 c38 (c40 nx) (c43 ny)
section
attribute [local irreducible] W4
set_option maxHeartbeats 1000000 in
theorem nf6_y (B : Nat) (w : World) (hT : Tab w) (hB : B < 2 ^ 64) :
    Calls Tryd.prog 8 #[A4 B] w fun r w' => r = .returned (.tuple #[.float .f64 B, .int .i64 0]) ∧ Below w.heap.size w w' := by
  have c1 := fun W hW => fits4 4 B (Nat.lt_trans hB (by decide)) W hW
  rw [decide_eq_true (show okN 4 ∧ B < 2 ^ (widthN 4).toNat from ⟨by decide, Nat.lt_of_lt_of_le hB (by decide)⟩)] at c1
  have x1 := run_f64 (B : Int)
  rw [Int.toNat_natCast] at x1
  rw [A4_oneT (show B < 18446744073709551616 by omega)] at c1 ⊢
  have hsm := cell_set_map
  go_enter Tryd.func8, Tryd.ntmps8
  go_wp2_with (go_at_call 20; refine (c1 _ (hT.go bgo)).mono ?_; rintro r w1 ⟨rfl, hb1⟩; obtain ⟨hc1, hf1⟩ := bcell hb1; have hz1_0 : w.heap.size < w1.heap.size := lt_below hb1 ltg; have hl1_0 := Nat.le_of_lt hz1_0; have hA1 := bnext (w0 := w) bgo hb1; have hs1 := hA1.size; clear hb1)
  exact bodyPost_ret (by simp only [results, Tryd.results8]; go_simp) rfl ⟨rfl, bgo⟩
set_option maxHeartbeats 1000000 in
theorem nf6_n (B : Nat) (w : World) (hT : Tab w) (hB : B < 2 ^ 256) (hn : ¬ B < 2 ^ 64) :
    Calls Tryd.prog 8 #[A4 B] w fun r w' => (∃ z, r = .returned (.tuple #[.float .f64 z, .int .i64 1])) ∧ Below w.heap.size w w' := by
  have c1 := fun W hW => fits4 4 B hB W hW
  rw [decide_eq_false (show ¬ (okN 4 ∧ B < 2 ^ (widthN 4).toNat) from fun h => hn (Nat.lt_of_lt_of_le h.2 (by decide)))] at c1
  have hsm := cell_set_map
  go_enter Tryd.func8, Tryd.ntmps8
  go_wp2_with (go_at_call 20; refine (c1 _ (hT.go bgo)).mono ?_; rintro r w1 ⟨rfl, hb1⟩; obtain ⟨hc1, hf1⟩ := bcell hb1; have hz1_0 : w.heap.size < w1.heap.size := lt_below hb1 ltg; have hl1_0 := Nat.le_of_lt hz1_0; have hA1 := bnext (w0 := w) bgo hb1; have hs1 := hA1.size; clear hb1)
  exact bodyPost_ret (v := .tuple #[.float .f64 0, .int .i64 1]) (by simp only [results, Tryd.results8]; go_simp) rfl ⟨⟨_, rfl⟩, bgo⟩
set_option maxHeartbeats 1000000 in
theorem nt3_v (p : Nat) (w : World) (hp : p < 2 ^ 32) :
    Calls Tryd.prog 14 #[.float .f32 p] w fun r w' => r = .returned (A4 p) ∧ Below w.heap.size w w' := by
  have x1 := run_b32 p
  have hw1 : IntKind.u64.wrap (p : Int) = (p : Int) := by rw [IntKind.wrap_u64]; omega
  rw [A4_oneT (show p < 18446744073709551616 by omega)]
  have hsm := cell_set_map
  go_enter Tryd.func14, Tryd.ntmps14
  go_wp2
  exact bodyPost_ret (by simp only [results, Tryd.results14]; go_simp) rfl ⟨rfl, bgo⟩
theorem natF : NatF Tab := ⟨fun B W hB hT => nf6_y B W hT hB, fun B W hB hn hT => nf6_n B W hT hB hn, fun B W hB hT => nf3_y B W hT hB, fun B W hB hn hT => nf3_n B W hT hB hn, fun p W hp _ => nt6_v p W hp, fun p W hp _ => nt3_v p W hp⟩
end
/-- a binary format's pattern that is a number without a sign -/
theorem om_shape {n : Int} {B : Nat} (hg : goodN n B) (h1 : (unD n B).c = 1) (h2 : (unD n B).s = false) :
    ∃ x k, unD n B = ⟨1, false, false, x, k⟩ ∧ isD (fN n) (leastN n) (mostN n) ⟨1, false, false, x, k⟩ ∧ (x - leastN n).toNat * 2 ^ fN n + k = B ∧ k < 2 ^ 256 ∧ -20000 ≤ x ∧ x ≤ 20000 ∧ (k = 0 → B = 0) := by
  have hi := und_is hg
  have hp := (back_un hg).2
  have hb := hg.1
  have hl : -16990 ≤ leastN n ∧ mostN n ≤ 16990 ∧ fN n ≤ 250 := by rcases bin_cases hb with rfl | rfl | rfl | rfl | rfl | rfl <;> decide
  generalize unD n B = D at *
  obtain ⟨c, s, g, x, k⟩ := D
  dsimp only at h1 h2
  subst h1 h2
  rcases id hi with ⟨q1, q2, q3, q4, q5, q6⟩ | ⟨q, _⟩ | ⟨q, _⟩
  · dsimp only at q2 q3 q4 q5 q6
    subst q2
    have hm := pk_fin hb hi
    rw [hp, show sgN n false = 0 from rfl, Nat.add_zero] at hm
    have hk2 : k < 2 ^ 256 := Nat.lt_of_lt_of_le q3 (Nat.pow_le_pow_right (by decide) (by omega))
    refine ⟨x, k, rfl, hi, hm.symm, hk2, by omega, by omega, fun h0 => ?_⟩
    have := Nat.two_pow_pos (fN n)
    rcases q6 with q6 | q6
    · omega
    · rw [hm, q6, h0, Int.sub_self]; simp
  · exact absurd (show (1 : Int) = 2 from q) (by decide)
  · exact absurd (show (1 : Int) = 3 from q) (by decide)
/-- the middle is rounded to one of both, to the nearest to the even one -/
theorem mid_rd {n d : Int} (hb : binN n) {x : Int} {k : Nat} (h : isD (fN n) (leastN n) (mostN n) ⟨1, false, false, x, k⟩) (hT : (x - leastN n).toNat * 2 ^ fN n + k + 1 < tpN n) :
    (rdV n d false (2 * k + 1) 1 (x - 1) = (x - leastN n).toNat * 2 ^ fN n + k ∨ rdV n d false (2 * k + 1) 1 (x - 1) = (x - leastN n).toNat * 2 ^ fN n + k + 1) ∧ (rdF n d false (2 * k + 1) 1 (x - 1) = 8 ∨ rdF n d false (2 * k + 1) 1 (x - 1) = 12) ∧ (d = 0 → rdV n d false (2 * k + 1) 1 (x - 1) = (x - leastN n).toNat * 2 ^ fN n + k + k % 2) := by
  have hp0 := Nat.two_pow_pos (fN n)
  have hp : (2 : Nat) ^ (fN n + 1) = 2 ^ fN n + 2 ^ fN n := by rw [Nat.pow_succ]; omega
  rcases h with ⟨_, _, hk1, hx1, hx2, hx3⟩ | ⟨hc, _⟩ | ⟨hc, _⟩
  · dsimp only at hk1 hx1 hx2 hx3
    have hM : 2 * k + 1 ≠ 0 := by omega
    have hL := ld_mul (b := 1) hM (by decide)
    rw [Nat.mul_one] at hL
    obtain ⟨k1, k2, k3⟩ := bl_bd hM
    have hbl : bl (2 * k + 1) ≤ fN n + 2 := bl_le.2 (by rw [show fN n + 2 = (fN n + 1) + 1 by omega, Nat.pow_succ]; omega)
    have hX : rX n (2 * k + 1) 1 (x - 1) = x - 1 := by
      unfold rX wiZ; rw [hL]; omega
    have hQ : rQ n (2 * k + 1) 1 (x - 1) = x := by
      unfold rQ; rw [hX, hL]
      rcases hx3 with h | h
      · have : fN n + 1 < bl (2 * k + 1) := bl_ge.2 (by omega)
        omega
      · omega
    have hq0 : nrQ (2 * k + 1) 1 (x - 1 - x) = k ∧ nrR (2 * k + 1) 1 (x - 1 - x) = 1 := by
      unfold nrQ nrR
      rw [show (x - 1 - x).toNat = 0 by omega, show (-(x - 1 - x)).toNat = 1 by omega]
      omega
    have hPP : rP n d false (2 * k + 1) 1 (x - 1) = (x - leastN n).toNat * 2 ^ fN n + k + if nrF d false (2 * k + 1) 1 (x - 1 - x) then 1 else 0 := by
      rw [rP_eq]; unfold rB; rw [hX, hQ, hq0.1]
    have hno : ¬ tpN n ≤ rP n d false (2 * k + 1) 1 (x - 1) := by
      rw [hPP]
      split <;> omega
    rw [r_pat d false (x - 1) hb hM (by decide), r_flag d false (x - 1) hb hM (by decide)]
    unfold capV
    rw [if_neg hno, if_neg hno, hX, hQ, hq0.2, if_neg (by decide), hPP, show sgN n false = 0 from rfl, Nat.add_zero]
    refine ⟨?_, ?_, fun h0 => ?_⟩
    · split
      · right; rfl
      · left; rfl
    · split
      · right; rfl
      · left; rfl
    · subst h0
      have hF : nrF 0 false (2 * k + 1) 1 (x - 1 - x) = decide (k % 2 = 1) := by
        unfold nrF faB
        rw [hq0.1, hq0.2, show (-(x - 1 - x)).toNat = 1 by omega]
        rw [if_neg (by decide), if_pos rfl]
        simp
      rw [hF]
      by_cases hk2 : k % 2 = 1
      · rw [decide_eq_true hk2, hk2]; rfl
      · rw [decide_eq_false hk2, show k % 2 = 0 by omega]; rfl
  · exact absurd (show (1 : Int) = 2 from hc) (by decide)
  · exact absurd (show (1 : Int) = 3 from hc) (by decide)
/-- the next one, and its pattern -/
theorem mid_next {n : Int} (hb : binN n) {x : Int} {k : Nat} (h : isD (fN n) (leastN n) (mostN n) ⟨1, false, false, x, k⟩) (hT : (x - leastN n).toNat * 2 ^ fN n + k + 1 < tpN n) :
    ∃ x' k', isD (fN n) (leastN n) (mostN n) ⟨1, false, false, x', k'⟩ ∧ k' ≠ 0 ∧ ((x' = x ∧ k' = k + 1) ∨ (x' = x + 1 ∧ 2 * k' = k + 1)) ∧ goodN n ((x - leastN n).toNat * 2 ^ fN n + k + 1) ∧ unD n ((x - leastN n).toNat * 2 ^ fN n + k + 1) = ⟨1, false, false, x', k'⟩ := by
  obtain ⟨t1, t2, t3⟩ := top_is hb
  have hp0 := Nat.two_pow_pos (fN n)
  have hp : (2 : Nat) ^ (fN n + 1) = 2 ^ fN n + 2 ^ fN n := by rw [Nat.pow_succ]; omega
  rcases h with ⟨_, _, hk1, hx1, hx2, hx3⟩ | ⟨hc, _⟩ | ⟨hc, _⟩
  · dsimp only at hk1 hx1 hx2 hx3
    by_cases hf : k + 1 < 2 ^ (fN n + 1)
    · have hi : isD (fN n) (leastN n) (mostN n) ⟨1, false, false, x, k + 1⟩ := Or.inl ⟨rfl, rfl, hf, hx1, hx2, by dsimp only; omega⟩
      obtain ⟨g1, g2⟩ := pk_good hb hi
      rw [pk_fin hb hi, show sgN n false = 0 from rfl, Nat.add_zero, ← Nat.add_assoc] at g1 g2
      exact ⟨x, k + 1, hi, by omega, Or.inl ⟨rfl, rfl⟩, g1, g2⟩
    · have hxm : x ≠ mostN n := by
        intro e
        rw [t1, e] at hT
        omega
      have hi : isD (fN n) (leastN n) (mostN n) ⟨1, false, false, x + 1, 2 ^ fN n⟩ := Or.inl ⟨rfl, rfl, by dsimp only; omega, by dsimp only; omega, by dsimp only; omega, Or.inl (Nat.le_refl _)⟩
      obtain ⟨g1, g2⟩ := pk_good hb hi
      have e : (x + 1 - leastN n).toNat * 2 ^ fN n + 2 ^ fN n = (x - leastN n).toNat * 2 ^ fN n + k + 1 := by
        rw [show (x + 1 - leastN n).toNat = (x - leastN n).toNat + 1 by omega, Nat.add_mul]; omega
      rw [pk_fin hb hi, show sgN n false = 0 from rfl, Nat.add_zero, e] at g1 g2
      exact ⟨x + 1, 2 ^ fN n, hi, by omega, Or.inr ⟨rfl, by omega⟩, g1, g2⟩
  · exact absurd (show (1 : Int) = 2 from hc) (by decide)
  · exact absurd (show (1 : Int) = 3 from hc) (by decide)
/-- a float32 that is finite, widened -/
theorem hv_wide {B : Nat} {x : Int} {k : Nat} (hg : goodN 3 B) (hu : unD 3 B = ⟨1, false, false, x, k⟩) (hi : isD (fN 3) (leastN 3) (mostN 3) ⟨1, false, false, x, k⟩) :
    ∃ q c, isD (fN 4) (leastN 4) (mostN 4) ⟨1, false, false, q, c⟩ ∧ ((k = 0 ∧ c = 0) ∨ (k ≠ 0 ∧ ∃ j : Nat, c = k * 2 ^ j ∧ q = x - j)) ∧ goodN 4 (cnV 3 4 0 B) ∧ unD 4 (cnV 3 4 0 B) = ⟨1, false, false, q, c⟩ := by
  obtain ⟨q, c, h1, h2⟩ := hold_fin (m := 3) (n := 4) (by decide) (by decide) hi
  obtain ⟨g1, g2⟩ := pk_good (n := 4) (by decide) h1
  have e : cnV 3 4 0 B = pkV 4 ⟨1, false, false, q, c⟩ := by
    rw [show cnV 3 4 0 B = cvV 4 0 (unD 3 B) from if_pos ⟨hg, by decide, by decide⟩, hu]
    rw [show cvV 4 0 ⟨1, false, false, x, k⟩ = rdV 4 0 false k 1 x from rfl, ← (cv_alike 4 0 false h2).1]
    exact (cv_keep 0 (n := 4) (by decide) h1).1
  rw [e]
  exact ⟨q, c, h1, h2, g1, g2⟩
theorem halves_num {B : Nat} (hB : B + 1 < tpN 3) :
    goodN 3 B ∧ goodN 3 (B + 1) ∧ (unD 3 B).c = 1 ∧ (unD 3 (B + 1)).c = 1 ∧ ∃ S Mi, Ieee.double.add (cnV 3 4 0 B) (cnV 3 4 0 (B + 1)) = some S ∧ Ieee.double.div S 4611686018427387904 = some Mi ∧ goodN 4 Mi ∧ (unD 4 Mi).c ≠ 3 ∧ (nwV Mi = B ∨ nwV Mi = B + 1) ∧ nwV Mi % 2 = 0 ∧ (nwF Mi = 8 ∨ nwF Mi = 12) := by
  obtain ⟨p1, p2, p3, p4, p5⟩ := pat_is (n := 3) (by decide) false (M := B) (by omega)
  rw [show sgN 3 false = 0 from rfl, Nat.add_zero] at p1 p2 p3 p4 p5
  have hi := und_is p1
  have hc2 : (unD 3 B).c ≠ 2 := fun q => by have := p5.1 q; omega
  obtain ⟨x, k, hu⟩ : ∃ x k, unD 3 B = ⟨1, false, false, x, k⟩ := by
    generalize unD 3 B = D at *
    obtain ⟨c, s, g, x, k⟩ := D
    dsimp only at p2 p4 hc2
    rcases hi with ⟨q1, q2, _⟩ | ⟨q1, _⟩ | ⟨q1, _⟩
    · dsimp only at q1 q2
      subst q1 q2 p4
      exact ⟨x, k, rfl⟩
    · exact absurd q1 hc2
    · exact absurd q1 p2
  rw [hu] at hi p3
  have em : (x - leastN 3).toNat * 2 ^ fN 3 + k = B := by
    rw [← p3]; exact (if_neg (show ¬ (1 : Int) = 2 by decide)).symm
  have hT : (x - leastN 3).toNat * 2 ^ fN 3 + k + 1 < tpN 3 := by rw [em]; exact hB
  obtain ⟨m1, m2, m3⟩ := mid_rd (n := 3) (d := 0) (by decide) hi hT
  obtain ⟨x', k', n1, n2, n3, n4, n5⟩ := mid_next (n := 3) (by decide) hi hT
  rw [em] at m1 m3 n4 n5
  obtain ⟨qa, ca, a1, a2, a3, a4⟩ := hv_wide p1 hu hi
  obtain ⟨qb, cb, b1, b2, b3, b4⟩ := hv_wide n4 n5 n1
  have hx : -149 ≤ x ∧ x ≤ 104 := by
    rcases hi with ⟨_, _, _, q1, q2, _⟩ | ⟨q, _⟩ | ⟨q, _⟩
    · exact ⟨q1, q2⟩
    · exact absurd (show (1 : Int) = 2 from q) (by decide)
    · exact absurd (show (1 : Int) = 3 from q) (by decide)
  have hk : k < 2 ^ 24 := by
    rcases hi with ⟨_, _, q1, _⟩ | ⟨q, _⟩ | ⟨q, _⟩
    · exact q1
    · exact absurd (show (1 : Int) = 2 from q) (by decide)
    · exact absurd (show (1 : Int) = 3 from q) (by decide)
  have hqa : qa ≤ 800 ∧ -1074 ≤ qa ∧ (k = 0 → qa = -1074) := by
    rcases a1 with ⟨_, _, q0, q1, q2, q3⟩ | ⟨q, _⟩ | ⟨q, _⟩
    · dsimp only at q0 q1 q2 q3
      have q1' : (-1074 : Int) ≤ qa := q1
      rcases a2 with ⟨r1, r2⟩ | ⟨r1, j, r2, r3⟩
      · rcases q3 with h | h
        · rw [r2] at h; exact absurd h (by decide)
        · have : qa = -1074 := h
          omega
      · omega
    · exact absurd (show (1 : Int) = 2 from q) (by decide)
    · exact absurd (show (1 : Int) = 3 from q) (by decide)
  obtain ⟨jb, r2, r3⟩ : ∃ j : Nat, cb = k' * 2 ^ j ∧ qb = x' - j := by
    rcases b2 with ⟨r1, _⟩ | ⟨_, h⟩
    · exact absurd r1 n2
    · exact h
  have hqb : qb ≤ 800 := by clear a2 b2; omega
  have hbx : min qa qb ≤ x := by
    rcases a2 with ⟨r1, _⟩ | ⟨_, j, _, r4⟩
    · exact Int.le_trans (Int.min_le_left _ _) (by rw [hqa.2.2 r1]; exact Int.le_trans (by decide) hx.1)
    · exact Int.le_trans (Int.min_le_left _ _) (by rw [r4]; exact Int.sub_le_self _ (Int.natCast_nonneg _))
  have hTT := fl_T (k := k) (k' := k') (kA := ca) (kB := cb) (x := x) (x' := x') (xA := qa) (xB := qb) (b := min qa qb) (by clear a2 b2; rcases n3 with ⟨h1, h2⟩ | ⟨h1, h2⟩ <;> omega) a2 ⟨jb, r2, r3⟩ (by clear a2 b2; omega) (by clear a2 b2; omega) hbx
  have hN0 : 2 * k + 1 ≠ 0 := Nat.succ_ne_zero _
  have hs := fl_sum a3 b3 (by rw [a4]) (by rw [b4]) (by rw [a4]) (by rw [b4]) (by rw [a4]; exact hqa.1) (by rw [b4]; exact hqb) (min qa qb) (by rw [a4, b4]) ((2 * k + 1) * 2 ^ (x - min qa qb).toNat) (by rw [a4, b4]; exact hTT.symm) (Nat.mul_ne_zero hN0 (Nat.pos_iff_ne_zero.1 (Nat.two_pow_pos _)))
  rw [(cv_alike 4 0 false (x := x) (q := min qa qb) (k := 2 * k + 1) (c := (2 * k + 1) * 2 ^ (x - min qa qb).toNat) (Or.inr ⟨hN0, (x - min qa qb).toNat, rfl, by clear a2 b2; omega⟩)).1] at hs
  obtain ⟨f1, Mi, f2, f3, f4, f5, f6⟩ := fl_mid hN0 (x := x) (bl_le.2 (by clear a2 b2; omega)) (by clear a2 b2; omega) (by clear a2 b2; omega)
  have e1 : nwV Mi = rdV 3 0 false (2 * k + 1) 1 (x - 1) := f5
  have e2 : nwF Mi = rdF 3 0 false (2 * k + 1) 1 (x - 1) := f6
  refine ⟨p1, n4, by rw [hu], by rw [n5], _, Mi, hs, f2, f3, by rw [f4]; decide, ?_, ?_, ?_⟩
  · rw [e1]; exact m1
  · rw [e1, m3 rfl, ← em]
    have : (x - leastN 3).toNat * 2 ^ fN 3 % 2 = 0 := by
      rw [show (2 : Nat) ^ fN 3 = 2 * 2 ^ 22 from rfl, Nat.mul_left_comm]
      exact Nat.mul_mod_right _ _
    clear a2 b2
    omega
  · rw [e2]; exact m2
section
theorem an32 {y : Nat} (hy : y < 4294967296) : bits .andNot .u32 (y : Int) 2147483648 = ((y % 2147483648 : Nat) : Int) := by
  have h1 : (BitVec.ofInt 32 (y : Int)).toNat = y := by
    rw [BitVec.ofInt_natCast, BitVec.toNat_ofNat]; exact Nat.mod_eq_of_lt (by omega)
  have h2 : (~~~ BitVec.ofInt 32 (2147483648 : Int)).toNat = 2 ^ 31 - 1 := by decide
  have hx : y % 2147483648 < 2147483648 := Nat.mod_lt _ (by decide)
  show IntKind.u32.wrap ((BitVec.ofInt 32 (y : Int) &&& ~~~ BitVec.ofInt 32 (2147483648 : Int)).toNat : Int) = _
  rw [BitVec.toNat_and, h1, h2, Nat.and_two_pow_sub_one_eq_mod, IntKind.wrap_u32]
  rw [show (2 : Nat) ^ 31 = 2147483648 by decide]
  omega
theorem an64 {y : Nat} (hy : y < 9223372036854775808) : bits .andNot .u64 (y : Int) 9223372036854775808 = (y : Int) := by
  have h1 : (BitVec.ofInt 64 (y : Int)).toNat = y := by
    rw [BitVec.ofInt_natCast, BitVec.toNat_ofNat]; exact Nat.mod_eq_of_lt (by omega)
  have h2 : (~~~ BitVec.ofInt 64 (9223372036854775808 : Int)).toNat = 2 ^ 63 - 1 := by decide
  show IntKind.u64.wrap ((BitVec.ofInt 64 (y : Int) &&& ~~~ BitVec.ofInt 64 (9223372036854775808 : Int)).toNat : Int) = _
  rw [BitVec.toNat_and, h1, h2, Nat.and_two_pow_sub_one_eq_mod, IntKind.wrap_u64]
  rw [show (2 : Nat) ^ 63 = 9223372036854775808 by decide, Nat.mod_eq_of_lt hy]
  omega
set_option maxHeartbeats 1000000 in
theorem abs_v {b : Nat} (hb : b < 9223372036854775808) (w : World) : Calls Tryd.prog 25 #[.float .f64 b] w fun r w' => r = .returned (.float .f64 b) ∧ w = w' := by
  have x1 := run_b64 b
  have x2 := run_f64 (b : Int)
  rw [Int.toNat_natCast] at x2
  have h := an64 hb
  go_enter Tryd.func25, Tryd.ntmps25
  go_wp2
  go_ret
  exact ⟨rfl, rfl⟩
set_option maxHeartbeats 1000000 in
theorem isinf_v {b : Nat} (hb : b < 9223372036854775808) (z : Bool) (hz : (FloatKind.f64.format.order b 9218868437227405311 == some Ordering.gt) = z) (w : World) : Calls Tryd.prog 18 #[.float .f64 b, .int .i64 0] w fun r w' => r = .returned (.bool z) ∧ w = w' := by
  have c1 := fun W => abs_v hb W
  go_enter Tryd.func18, Tryd.ntmps18
  go_wp2_with (first
    | (go_at_call 25; refine (c1 _).mono ?_; rintro r w1 ⟨rfl, rfl⟩))
  go_ret
  exact ⟨rfl, rfl⟩
theorem cmp_le {a b : Int} (h : a ≤ b) : ((some (compare a b)) == some Ordering.gt) = false := by
  have : compare a b = compareOfLessAndEq a b := rfl
  rw [this]
  unfold compareOfLessAndEq
  by_cases h1 : a < b
  · rw [if_pos h1]; rfl
  · rw [if_neg h1, if_pos (by omega)]; rfl
/-- against the greatest float64 -/
theorem inf_4n {b : Nat} (hB : goodN 4 b) (hc : (unD 4 b).c = 1) (hs : (unD 4 b).s = false) : (FloatKind.f64.format.order b 9218868437227405311 == some Ordering.gt) = false := by
  obtain ⟨r1, _, _⟩ := fm_read fmt_4 hB
  obtain ⟨t1, _, _⟩ := fm_read fmt_4 (B := 9218868437227405311) ⟨by decide, by decide⟩
  have hu : unD 4 9218868437227405311 = ⟨1, false, false, 971, 9007199254740991⟩ := by kernel_rfl
  rw [hu] at t1
  have hi := und_is hB
  have hr := r1 hc
  rw [hs] at hr
  generalize unD 4 b = D at *
  obtain ⟨c, s, g, x, k⟩ := D
  dsimp only at hc hs hr
  subst hc hs
  have hk : k < 9007199254740992 ∧ -1074 ≤ x ∧ x ≤ 971 := by
    rcases hi with ⟨_, _, q1, q2, q3, _⟩ | ⟨q, _⟩ | ⟨q, _⟩
    · exact ⟨q1, q2, q3⟩
    · exact absurd (show (1 : Int) = 2 from q) (by decide)
    · exact absurd (show (1 : Int) = 3 from q) (by decide)
  show (((Ieee.double.read b).order (Ieee.double.read 9218868437227405311)) == some Ordering.gt) = false
  rw [hr, t1 rfl]
  show ((some (compare (Ieee.signed false k (x - min x 971).toNat) (Ieee.signed false 9007199254740991 (971 - min x 971).toNat))) == some Ordering.gt) = false
  rw [fl_sg, fl_sg, show min x 971 = x by omega, Int.sub_self]
  refine cmp_le (Int.ofNat_le.2 ?_)
  have h2 := Nat.two_pow_pos (971 - x).toNat
  have h3 : 9007199254740991 * 1 ≤ 9007199254740991 * 2 ^ (971 - x).toNat := Nat.mul_le_mul_left _ h2
  have h4 : k * 2 ^ (0 : Int).toNat = k := by rw [show (0 : Int).toNat = 0 from rfl, Nat.pow_zero, Nat.mul_one]
  omega
theorem inf_4y {b : Nat} (hB : goodN 4 b) (hc : (unD 4 b).c = 2) (hs : (unD 4 b).s = false) : (FloatKind.f64.format.order b 9218868437227405311 == some Ordering.gt) = true := by
  obtain ⟨_, r1, _⟩ := fm_read fmt_4 hB
  obtain ⟨t1, _, _⟩ := fm_read fmt_4 (B := 9218868437227405311) ⟨by decide, by decide⟩
  have hu : unD 4 9218868437227405311 = ⟨1, false, false, 971, 9007199254740991⟩ := by kernel_rfl
  rw [hu] at t1
  have hr := r1 hc
  rw [hs] at hr
  show (((Ieee.double.read b).order (Ieee.double.read 9218868437227405311)) == some Ordering.gt) = true
  rw [hr, t1 rfl]
  rfl
end
section
section
attribute [local irreducible] W4
variable (TT : World → Prop) (hTT : ∀ w w', TT w → Below w.heap.size w w' → TT w') (w : World) (hT : TT w)
  (c8 : ∀ W, TT W → Calls Tryd.prog 7 #[] W fun r w' => r = .returned (.bool true) ∧ Below W.heap.size W w')
  (y B : Nat) (hB : B < 2147483648) (hand : bits .andNot .u32 (y : Int) 2147483648 = (B : Int))
include hTT hT c8 hB hand
set_option maxHeartbeats 4000000 in
theorem nh21_a (h1 : FloatKind.f32.format.order B B = none) :
    Calls Tryd.prog 6 #[.int .u32 (y : Int)] w fun r w' => r = .returned (.bool true) ∧ Below w.heap.size w w' := by
  have hsm := cell_set_map
  have hwB : IntKind.u32.wrap ((B : Int) + 1) = (B : Int) + 1 := by rw [IntKind.wrap_u32]; omega
  have x1 := run_f32 (B : Int)
  have x2 := run_f32 ((B : Int) + 1)
  rw [Int.toNat_natCast] at x1
  rw [show ((B : Int) + 1).toNat = B + 1 by omega] at x2
  have hn0 : ((none : Option Ordering) != some Ordering.eq) = true := rfl
  have hn1 : ((some Ordering.eq : Option Ordering) != some Ordering.eq) = false := rfl
  have hn2 : ((some Ordering.eq : Option Ordering) == some Ordering.eq) = true := rfl
  go_enter Tryd.func6, Tryd.ntmps6
  go_wp2_with (first
    | (go_at_call 7; refine (c8 _ (hTT _ _ hT bgo)).mono ?_; rintro r w1 ⟨rfl, hb1⟩; obtain ⟨hc1, hf1⟩ := bcell hb1; have hA1 := bnext (w0 := w) bgo hb1; have hs1 := hA1.size; clear hb1))
  go_ret
  exact ⟨by first | rfl | simp, bgo⟩
set_option maxHeartbeats 4000000 in
theorem nh21_b (h1 : FloatKind.f32.format.order B B = some .eq) (h2 : FloatKind.f32.format.order (B + 1) (B + 1) = none) :
    Calls Tryd.prog 6 #[.int .u32 (y : Int)] w fun r w' => r = .returned (.bool true) ∧ Below w.heap.size w w' := by
  have hsm := cell_set_map
  have hwB : IntKind.u32.wrap ((B : Int) + 1) = (B : Int) + 1 := by rw [IntKind.wrap_u32]; omega
  have x1 := run_f32 (B : Int)
  have x2 := run_f32 ((B : Int) + 1)
  rw [Int.toNat_natCast] at x1
  rw [show ((B : Int) + 1).toNat = B + 1 by omega] at x2
  have hn0 : ((none : Option Ordering) != some Ordering.eq) = true := rfl
  have hn1 : ((some Ordering.eq : Option Ordering) != some Ordering.eq) = false := rfl
  have hn2 : ((some Ordering.eq : Option Ordering) == some Ordering.eq) = true := rfl
  go_enter Tryd.func6, Tryd.ntmps6
  go_wp2_with (first
    | (go_at_call 7; refine (c8 _ (hTT _ _ hT bgo)).mono ?_; rintro r w1 ⟨rfl, hb1⟩; obtain ⟨hc1, hf1⟩ := bcell hb1; have hA1 := bnext (w0 := w) bgo hb1; have hs1 := hA1.size; clear hb1))
  go_ret
  exact ⟨by first | rfl | simp, bgo⟩
variable (h1 : FloatKind.f32.format.order B B = some .eq) (h2 : FloatKind.f32.format.order (B + 1) (B + 1) = some .eq) (V1 V2 : Nat)
  (x3 : ∀ W, Sem.run Tryd.prog (convert 31 27 (.float .f32 B)) W = .ok (.float .f64 V1) W)
  (x4 : ∀ W, Sem.run Tryd.prog (convert 31 27 (.float .f32 (B + 1))) W = .ok (.float .f64 V2) W)
  (cF : ∀ W, Calls Tryd.prog 18 #[.float .f64 V1, .int .i64 0] W fun r w' => r = .returned (.bool false) ∧ W = w')
include h1 h2 x3 x4 cF
set_option maxHeartbeats 4000000 in
theorem nh21_c (cG : ∀ W, Calls Tryd.prog 18 #[.float .f64 V2, .int .i64 0] W fun r w' => r = .returned (.bool true) ∧ W = w') :
    Calls Tryd.prog 6 #[.int .u32 (y : Int)] w fun r w' => r = .returned (.bool true) ∧ Below w.heap.size w w' := by
  have hsm := cell_set_map
  have hwB : IntKind.u32.wrap ((B : Int) + 1) = (B : Int) + 1 := by rw [IntKind.wrap_u32]; omega
  have x1 := run_f32 (B : Int)
  have x2 := run_f32 ((B : Int) + 1)
  rw [Int.toNat_natCast] at x1
  rw [show ((B : Int) + 1).toNat = B + 1 by omega] at x2
  have hn0 : ((none : Option Ordering) != some Ordering.eq) = true := rfl
  have hn1 : ((some Ordering.eq : Option Ordering) != some Ordering.eq) = false := rfl
  have hn2 : ((some Ordering.eq : Option Ordering) == some Ordering.eq) = true := rfl
  go_enter Tryd.func6, Tryd.ntmps6
  go_wp2_with (first
    | (go_at_call 7; refine (c8 _ (hTT _ _ hT bgo)).mono ?_; rintro r w1 ⟨rfl, hb1⟩; obtain ⟨hc1, hf1⟩ := bcell hb1; have hA1 := bnext (w0 := w) bgo hb1; have hs1 := hA1.size; clear hb1)
    | (have := hF; go_at_call 18; refine (cG _).mono ?_; rintro r wG ⟨rfl, rfl⟩)
    | (go_at_call 18; refine (cF _).mono ?_; rintro r wF ⟨rfl, rfl⟩; have hF := hA1))
  go_ret
  exact ⟨by first | rfl | simp, bgo⟩
set_option maxHeartbeats 8000000 in
theorem nh21_d (S Mi V : Nat) (F x : Int) (s g : Bool) (k : Nat) (Eu : Int) (hS : Ieee.double.add V1 V2 = some S) (hM : Ieee.double.div S 4611686018427387904 = some Mi)
    (hV : (V : Int) % 2 = 0) (hF : F = 8 ∨ F = 12) (hVB : FloatKind.f32.format.order V B = some .eq ∨ ((FloatKind.f32.format.order V B == some .eq) = false ∧ FloatKind.f32.format.order V (B + 1) = some .eq))
    (cG : ∀ W, Calls Tryd.prog 18 #[.float .f64 V2, .int .i64 0] W fun r w' => r = .returned (.bool false) ∧ W = w')
    (cN : ∀ W, TT W → Calls Tryd.prog 16 #[.float .f64 Mi] W fun r w' => r = .returned (.tuple #[.float .f32 V, .int .i64 F]) ∧ Below W.heap.size W w')
    (cT : ∀ W, Calls Tryd.prog 14 #[.float .f32 V] W fun r w' => r = .returned (A4 V) ∧ Below W.heap.size W w')
    (cU : ∀ W, TT W → Calls Tryd.prog 19 #[.int .i64 3, A4 V] W fun r w' => r = .returned (.tuple #[DV 1 s g x k, .int .i64 Eu]) ∧ Below W.heap.size W w') :
    Calls Tryd.prog 6 #[.int .u32 (y : Int)] w fun r w' => r = .returned (.bool true) ∧ Below w.heap.size w w' := by
  unfold A4 DV at *
  have hsm := cell_set_map
  have hwB : IntKind.u32.wrap ((B : Int) + 1) = (B : Int) + 1 := by rw [IntKind.wrap_u32]; omega
  have x1 := run_f32 (B : Int)
  have x2 := run_f32 ((B : Int) + 1)
  rw [Int.toNat_natCast] at x1
  rw [show ((B : Int) + 1).toNat = B + 1 by omega] at x2
  have hn0 : ((none : Option Ordering) != some Ordering.eq) = true := rfl
  have hn1 : ((some Ordering.eq : Option Ordering) != some Ordering.eq) = false := rfl
  have hn2 : ((some Ordering.eq : Option Ordering) == some Ordering.eq) = true := rfl
  have x5 := run_b32 V
  have x6 : ∀ t W, (binOp .add t (.float .f64 V1) (.float .f64 V2)).run Tryd.prog W = .ok (.float .f64 S) W := fun t W => run_float_arith W .add t .f64 V1 V2 S hS
  have x7 : ∀ t W, (binOp .quo t (.float .f64 S) (.float .f64 4611686018427387904)).run Tryd.prog W = .ok (.float .f64 Mi) W := fun t W => run_float_arith W .quo t .f64 S 4611686018427387904 Mi hM
  have h88 : bits .and .i64 8 8 = 8 := by decide
  have h128 : bits .and .i64 12 8 = 8 := by decide
  have hVt : (V : Int).tmod 2 = 0 := by rw [Int.tmod_eq_emod_of_nonneg (Int.natCast_nonneg V)]; exact hV
  clear hS hM
  rcases hVB with hv | ⟨hv, hv2⟩ <;> rcases hF with rfl | rfl
  all_goals (
    go_enter Tryd.func6, Tryd.ntmps6
    go_wp2_with (first
    | (go_at_call 7; refine (c8 _ (hTT _ _ hT bgo)).mono ?_; rintro r w1 ⟨rfl, hb1⟩; obtain ⟨hc1, hf1⟩ := bcell hb1; have hA1 := bnext (w0 := w) bgo hb1; have hs1 := hA1.size; clear hb1)
    | (have := hF; go_at_call 18; refine (cG _).mono ?_; rintro r wG ⟨rfl, rfl⟩)
    | (go_at_call 18; refine (cF _).mono ?_; rintro r wF ⟨rfl, rfl⟩; have hF := hA1)
    | (go_at_call 16; refine (cN _ (hTT _ _ hT bgo)).mono ?_; rintro r w2 ⟨rfl, hb2⟩; obtain ⟨hc2, hf2⟩ := bcell hb2; have hA2 := bnext (w0 := w) bgo hb2; have hs2 := hA2.size; clear hb2)
    | (go_at_call 14; refine (cT _).mono ?_; rintro r w3 ⟨rfl, hb3⟩; obtain ⟨hc3, hf3⟩ := bcell hb3; have hA3 := bnext (w0 := w) bgo hb3; have hs3 := hA3.size; clear hb3)
    | (go_at_call 19; refine (cU _ (hTT _ _ hT bgo)).mono ?_; rintro r w4 ⟨rfl, hb4⟩; obtain ⟨hc4, hf4⟩ := bcell hb4; have hA4 := bnext (w0 := w) bgo hb4; have hs4 := hA4.size; clear hb4))

    go_ret
    exact ⟨by first | rfl | simp, bgo⟩)
end
end
theorem hv_small {A : Nat} {q : Int} {c : Nat} (hg : goodN 4 A) (hu : unD 4 A = ⟨1, false, false, q, c⟩) : A < 9223372036854775808 := by
  have h1 := und_is hg
  have h2 := (back_un hg).2
  obtain ⟨m1, m2⟩ := mg_pk (n := 4) (by decide) h1 (by rw [hu]; show (1 : Int) ≠ 3; decide)
  rw [h2, hu] at m1
  rw [hu] at m2
  have h3 : tpN 4 < 9223372036854775808 := by decide
  have h4 : sgN 4 (Dat.mk 1 false false q c).s = 0 := rfl
  omega
/-- a float32 that is no NaN and has no sign lies up to the infinite one -/
theorem hv_nan {B : Nat} (hB : B < 2147483648) (h : tpN 3 < B) : (unD 3 B).c = 3 := by
  have hg : goodN 3 B := ⟨by decide, Nat.lt_trans hB (by decide)⟩
  refine Classical.byContradiction fun h3 => ?_
  obtain ⟨m1, m2⟩ := mg_pk (n := 3) (by decide) (und_is hg) h3
  rw [(back_un hg).2] at m1
  have h4 : sgN 3 true = 2147483648 := by decide
  have h5 : sgN 3 false = 0 := rfl
  cases hs : (unD 3 B).s <;> rw [hs] at m1 <;> omega
theorem hv_eq {B : Nat} (hB : B < 4294967296) (h3 : (unD 3 B).c ≠ 3) : FloatKind.f32.format.order B B = some .eq := by
  rcases ord_3 (B := B) hB with ⟨q, _⟩ | ⟨_, q⟩
  · exact absurd q h3
  · exact q
theorem cmp_ne {a b : Int} (h : a ≠ b) : ((some (compare a b)) == some Ordering.eq) = false := by
  have : compare a b = compareOfLessAndEq a b := rfl
  rw [this]
  unfold compareOfLessAndEq
  by_cases h1 : a < b
  · rw [if_pos h1]; rfl
  · rw [if_neg h1, if_neg h]; rfl
theorem hv_ne {B : Nat} (hB : B + 1 < tpN 3) : (FloatKind.f32.format.order (B + 1) B == some Ordering.eq) = false := by
  obtain ⟨p1, p2, p3, p4, p5⟩ := pat_is (n := 3) (by decide) false (M := B) (by omega)
  obtain ⟨q1, q2, q3, q4, q5⟩ := pat_is (n := 3) (by decide) false (M := B + 1) (by omega)
  rw [show sgN 3 false = 0 from rfl, Nat.add_zero] at p1 p2 p3 p4 p5 q1 q2 q3 q4 q5
  have c1 : (unD 3 B).c = 1 := by
    rcases und_is p1 with ⟨h, _⟩ | ⟨h, _⟩ | ⟨h, _⟩
    · exact h
    · have := p5.1 h; omega
    · exact absurd h p2
  have c2 : (unD 3 (B + 1)).c = 1 := by
    rcases und_is q1 with ⟨h, _⟩ | ⟨h, _⟩ | ⟨h, _⟩
    · exact h
    · have := q5.1 h; omega
    · exact absurd h q2
  obtain ⟨x1, k1, u1, i1, _⟩ := om_shape p1 c1 p4
  obtain ⟨x2, k2, u2, i2, _⟩ := om_shape q1 c2 q4
  obtain ⟨r1, _, _⟩ := fm_read fmt_3 p1
  obtain ⟨t1, _, _⟩ := fm_read fmt_3 q1
  rw [u1] at p3 r1
  rw [u2] at q3 t1
  have hc := mg_cmp (n := 3) (by decide) i1 i2
  rw [p3, q3] at hc
  have hs : sgn (B : Int) ((B + 1 : Nat) : Int) = -1 := by unfold sgn; rw [if_pos (by omega)]
  rw [hs] at hc
  have l1 : leastN 3 ≤ x1 := by
    rcases i1 with ⟨_, _, _, q, _⟩ | ⟨q, _⟩ | ⟨q, _⟩
    · exact q
    · exact absurd (show (1 : Int) = 2 from q) (by decide)
    · exact absurd (show (1 : Int) = 3 from q) (by decide)
  have l2 : leastN 3 ≤ x2 := by
    rcases i2 with ⟨_, _, _, q, _⟩ | ⟨q, _⟩ | ⟨q, _⟩
    · exact q
    · exact absurd (show (1 : Int) = 2 from q) (by decide)
    · exact absurd (show (1 : Int) = 3 from q) (by decide)
  show (((Ieee.single.read (B + 1)).order (Ieee.single.read B)) == some Ordering.eq) = false
  rw [r1 rfl, t1 rfl]
  show ((some (compare (Ieee.signed false k2 (x2 - min x2 x1).toNat) (Ieee.signed false k1 (x1 - min x2 x1).toNat))) == some Ordering.eq) = false
  rw [fl_sg, fl_sg]
  refine cmp_ne fun he => ?_
  have he' := Int.ofNat.inj he
  have e : k1 * 2 ^ (x1 - leastN 3).toNat = k2 * 2 ^ (x2 - leastN 3).toNat := by
    rw [show (x1 - leastN 3).toNat = (x1 - min x2 x1).toNat + (min x2 x1 - leastN 3).toNat by omega, show (x2 - leastN 3).toNat = (x2 - min x2 x1).toNat + (min x2 x1 - leastN 3).toNat by omega, Nat.pow_add, Nat.pow_add, ← Nat.mul_assoc, ← Nat.mul_assoc, he']
  have hz : sgn (oI (leastN 3) 2 ⟨1, false, false, x1, k1⟩ : Int) (oI (leastN 3) 2 ⟨1, false, false, x2, k2⟩ : Int) = 0 := by
    unfold oI
    dsimp only
    rw [e]
    unfold sgn
    rw [if_neg (by omega), if_neg (by omega)]
  rw [hz] at hc
  exact absurd hc (by decide)
theorem hv_conv {B V : Nat} (h : floatToFloatBits .f32 B .f64 = some V) (W : World) : Sem.run Tryd.prog (convert 31 27 (.float .f32 B)) W = .ok (.float .f64 V) W :=
  run_convert_float_float W _ _ .f32 .f64 B V (by kernel_rfl) (by kernel_rfl) h
theorem halves21_v {TT : World → Prop} (h : NatN TT) (hF : NatF TT) (hU : ∀ W, TT W → Tab W) (y : Nat) (hy : y < 2 ^ 32) (w : World) (hT : TT w) :
    Calls Tryd.prog 6 #[.int .u32 (y : Int)] w fun r w' => r = .returned (.bool true) ∧ Below w.heap.size w w' := by
  have c8 := fun W hW => awake21 h W hW
  have hand := an32 (y := y) hy
  have hB : y % 2147483648 < 2147483648 := Nat.mod_lt _ (by decide)
  generalize y % 2147483648 = B at *
  have ht : tpN 3 = 2139095040 := by decide
  by_cases h1 : tpN 3 < B
  · have h3 := hv_nan hB h1
    rcases ord_3 (B := B) (by omega) with ⟨_, q⟩ | ⟨q, _⟩
    · exact nh21_a TT h.next w hT c8 y B hB hand q
    · exact absurd h3 q
  · obtain ⟨p1, p2, p3, p4, p5⟩ := pat_is (n := 3) (by decide) false (M := B) (by omega)
    rw [show sgN 3 false = 0 from rfl, Nat.add_zero] at p1 p2 p3 p4 p5
    have o1 := hv_eq (B := B) (by omega) p2
    by_cases h2 : B = tpN 3
    · have h3 := hv_nan (B := B + 1) (by omega) (by omega)
      rcases ord_3 (B := B + 1) (by omega) with ⟨_, q⟩ | ⟨q, _⟩
      · exact nh21_b TT h.next w hT c8 y B hB hand o1 q
      · exact absurd h3 q
    · obtain ⟨q1, q2, q3, q4, q5⟩ := pat_is (n := 3) (by decide) false (M := B + 1) (by omega)
      rw [show sgN 3 false = 0 from rfl, Nat.add_zero] at q1 q2 q3 q4 q5
      have o2 := hv_eq (B := B + 1) (by omega) q2
      have c1 : (unD 3 B).c = 1 := by
        rcases und_is p1 with ⟨h, _⟩ | ⟨h, _⟩ | ⟨h, _⟩
        · exact h
        · exact absurd (p5.1 h) h2
        · exact absurd h p2
      obtain ⟨x, k, u1, i1, _⟩ := om_shape p1 c1 p4
      obtain ⟨qa, ca, a1, a2, a3, a4⟩ := hv_wide p1 u1 i1
      obtain ⟨w1, _, _, _⟩ := widen_is (y := B) (by omega) p2 (d := 0) (by decide)
      obtain ⟨w2, _, _, _⟩ := widen_is (y := B + 1) (by omega) q2 (d := 0) (by decide)
      have x3 := fun W => hv_conv w1 W
      have x4 := fun W => hv_conv w2 W
      have cF := fun W => isinf_v (hv_small a3 a4) false (inf_4n a3 (by rw [a4]) (by rw [a4])) W
      by_cases h3 : B + 1 = tpN 3
      · have hv2 : cnV 3 4 0 (B + 1) = 9218868437227405312 := by rw [h3, ht]; kernel_rfl
        rw [hv2] at x4
        have hu2 : unD 4 9218868437227405312 = ⟨2, false, false, 0, 0⟩ := by kernel_rfl
        exact nh21_c TT h.next w hT c8 y B hB hand o1 o2 _ _ x3 x4 cF (fun W => isinf_v (by decide) true (inf_4y ⟨by decide, by decide⟩ (by rw [hu2]) (by rw [hu2])) W)
      · have hlt : B + 1 < tpN 3 := by omega
        have c2 : (unD 3 (B + 1)).c = 1 := by
          rcases und_is q1 with ⟨h, _⟩ | ⟨h, _⟩ | ⟨h, _⟩
          · exact h
          · exact absurd (q5.1 h) h3
          · exact absurd h q2
        obtain ⟨x', k', u2, i2, _⟩ := om_shape q1 c2 q4
        obtain ⟨qb, cb, b1, b2, b3, b4⟩ := hv_wide q1 u2 i2
        have cG := fun W => isinf_v (hv_small b3 b4) false (inf_4n b3 (by rw [b4]) (by rw [b4])) W
        obtain ⟨_, _, _, _, S, Mi, n1, n2, n3, n4, n5, n6, n7⟩ := halves_num hlt
        have hMi : Mi < 2 ^ 64 := n3.2
        have hV : nwV Mi < 2 ^ 32 := by rcases n5 with q | q <;> rw [q] <;> omega
        have hVc : ∃ s g x k, unD 3 (nwV Mi) = ⟨1, s, g, x, k⟩ := by
          rcases n5 with q | q <;> rw [q]
          · exact ⟨_, _, _, _, u1⟩
          · exact ⟨_, _, _, _, u2⟩
        obtain ⟨s, g, x0, k0, hVu⟩ := hVc
        have cU := fun W hW => unpack_any 3 (nwV Mi) W (hU W hW) (Nat.lt_trans hV (by decide))
        rw [hVu] at cU
        refine nh21_d TT h.next w hT c8 y B hB hand o1 o2 _ _ x3 x4 cF S Mi (nwV Mi) (nwF Mi) x0 s g k0 _ n1 n2 (by omega) n7 ?_ cG (fun W hW => h.nw Mi W hMi n4 hW) (fun W => hF.t3 (nwV Mi) W hV (by rw [hVu]; show (1 : Int) ≠ 3; decide)) cU
        rcases n5 with q | q <;> rw [q]
        · exact Or.inl o1
        · exact Or.inr ⟨hv_ne hlt, o2⟩
theorem nativeBits_any (x y : Int) (B : Nat) (w : World) (hT : Tab w) (hx : 0 ≤ x ∧ x ≤ 18446744073709551615) (hy : 0 ≤ y ∧ y ≤ 4294967295) (hB : B < 2 ^ 256) :
    Calls Tryd.prog 3 #[.int .u64 x, .int .u32 y, A4 B] w fun r w' => r = .returned (.bool true) ∧ Below w.heap.size w w' := by
  obtain ⟨X, rfl⟩ : ∃ X : Nat, x = (X : Int) := ⟨x.toNat, by omega⟩
  obtain ⟨Y, rfl⟩ : ∃ Y : Nat, y = (Y : Int) := ⟨y.toNat, by omega⟩
  exact bits21_v natN natF X Y B w hT (by omega) (by omega) hB
theorem nativeHalves_any (y : Int) (w : World) (hT : Tab w) (hy : 0 ≤ y ∧ y ≤ 4294967295) :
    Calls Tryd.prog 6 #[.int .u32 y] w fun r w' => r = .returned (.bool true) ∧ Below w.heap.size w w' := by
  obtain ⟨Y, rfl⟩ : ∃ Y : Nat, y = (Y : Int) := ⟨y.toNat, by omega⟩
  exact halves21_v natN natF (fun _ h => h) Y (by omega) w hT
end Go.Proofs.YtpemdcnneabbfaaDoor
