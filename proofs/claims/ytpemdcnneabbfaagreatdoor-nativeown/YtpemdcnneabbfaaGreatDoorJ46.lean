/-
  Texts that the proof leans on.
-/
import Derived.Test.YtpemdcnneabbfaaGreatDoorJ40
import Derived.Test.YtpemdcnneabbfaaGreatDoorJ3
import Derived.Test.YtpemdcnneabbfaaGreatDoorJ42
import Derived.Test.YtpemdcnneabbfaaGreatDoorJ41
set_option linter.unusedVariables false
set_option linter.unusedSectionVars false
set_option linter.unusedSimpArgs false
set_option maxRecDepth 20000
namespace Go.Proofs.YtpemdcnneabbfaaGreatDoor
open Go.RowKit
section
theorem rless_wide {K K' A B : Nat} {v v' : Value} {w : World} (hK : K < 1000000) (hK' : K' < 1000000) (h : NV K A v w) (h' : NV K' B v' w) (hv : B ≤ A) :
    Calls Tryz.prog 75 #[v, v'] w fun e w' => ∃ r, e = .returned r ∧ NT (K + K') (A - B) r w' ∧ Below w.heap.size w w' := by
  obtain ⟨g, k, c, z, rfl, hk, hN, hz⟩ := h
  obtain ⟨g2, k2, c2, z2, rfl, hk2, hN2, hz2⟩ := h'
  refine (rless_tr _ _ k c k2 c2 z z2 w (by omega) (by omega) hN hN2).mono fun e w' ⟨g3, k3, cap3, e1, hk3, hN3, ht, hB⟩ => ⟨_, e1, ⟨g3, k3, cap3, _, rfl, by omega, hN3, ?_, ht⟩, hB⟩
  have ex := val_more hN.2.2.2.1 (max k k2) (by omega)
  have ey := val_more hN2.2.2.2.1 (max k k2) (by omega)
  have e := dif_val hN.2.2.1 hN2.2.2.1 (max k k2)
  rw [borW_end hN.2.2.1 hN2.2.2.1 (by omega), ex, ey] at e
  rw [← val_more hN3.2.2.2.1 _ hk3, val_congr (y := difW z z2) (max k k2) fun i hi => by unfold difZ; rw [if_pos hi]]
  omega
attribute [local irreducible] W4 NT NV

set_option maxHeartbeats 1000000 in
theorem rlargest_bad (n : Int) (s : Bool) (w : World) (h : ¬ binN n) :
    Calls Tryz.prog 35 #[.int .i64 n, .bool s] w fun x w' => x = .returned (.tuple #[Z4, .int .i64 1]) ∧ Below w.heap.size w w' := by
  have c35 := fun w => rbinary_any n w
  rw [decide_eq_false h] at c35
  have hsm := cell_set_map
  clear h
  go_enter Tryz.func35, Tryz.ntmps35
  go_wp2_with (go_at_call 14; refine (c35 _).mono ?_; rintro r w0 ⟨rfl, rfl⟩)
  exact bodyPost_ret (v := .tuple #[Z4, .int .i64 1]) (by simp only [results, Tryz.results35]; go_simp) rfl ⟨rfl, bgo⟩
theorem rlargest_any (n : Int) (s : Bool) (w : World) :
    Calls Tryz.prog 35 #[.int .i64 n, .bool s] w fun x w' => x = .returned (.tuple #[A4 (lgV n s), .int .i64 (lgE n)]) ∧ Below w.heap.size w w' := by
  by_cases hb : binN n
  · have hF := bin_fm hb
    have c25 := fun w => rof_bin hb w
    have c35 : ∀ w, Calls Tryz.prog 14 #[.int .i64 n] w fun x w' => x = .returned (.bool true) ∧ w = w' := fun w => by
      have := rbinary_any n w
      rw [decide_eq_true hb] at this
      exact this.mono fun _ _ ⟨h1, h2⟩ => ⟨h1, h2.symm⟩
    have hf := hF.f240
    have hp1 : 1 ≤ 2 ^ (fN n + 1) := Nat.one_le_two_pow
    have h256 : 2 ^ (fN n + 1) < 2 ^ 256 := Nat.pow_lt_pow_right (by decide) (by omega)
    have c30 := fun w => rpow_nv (fN n + 1) w (by omega)
    have c13 := fun w => rpack_any n ⟨1, s, false, mostN n, 2 ^ (fN n + 1) - 1⟩ w (by show 2 ^ (fN n + 1) - 1 < _; omega)
    have hpf : 2 ^ (fN n + 1) = 2 ^ fN n + 2 ^ fN n := by rw [Nat.pow_succ]; omega
    have hpp : 1 ≤ 2 ^ fN n := Nat.one_le_two_pow
    have hpc : ((2 : Int) ^ eN n) = ((2 ^ eN n : Nat) : Int) := by simp
    have hp := pow_e hF.e2 hF.e15
    have hm := hF.m
    rw [hpc] at hp hm
    have hi : isD (fN n) (leastN n) (mostN n) ⟨1, s, false, mostN n, 2 ^ (fN n + 1) - 1⟩ := Or.inl ⟨rfl, rfl, by show 2 ^ (fN n + 1) - 1 < _; omega, by show leastN n ≤ mostN n; omega, Int.le_refl _, Or.inl (by show 2 ^ fN n ≤ 2 ^ (fN n + 1) - 1; omega)⟩
    have e1 : pkE n ⟨1, s, false, mostN n, 2 ^ (fN n + 1) - 1⟩ = lgE n := by unfold pkE lgE; rw [if_pos hb, if_pos hi, if_pos hb]
    have e2 : pkV n ⟨1, s, false, mostN n, 2 ^ (fN n + 1) - 1⟩ = lgV n s := by
      unfold pkV lgV pk
      rw [if_pos ⟨hb, hi⟩, if_pos hb]
      dsimp only
      rw [if_pos rfl, show (mostN n - leastN n).toNat = 2 ^ eN n - 3 by omega]
      obtain ⟨q, hq⟩ : ∃ q, 2 ^ eN n = q + 3 := ⟨2 ^ eN n - 3, by omega⟩
      rw [hq, show q + 3 - 3 = q by omega, show q + 3 - 2 = q + 1 by omega, Nat.add_mul]
      omega
    rw [e1, e2] at c13
    refine rlargest_ok n _ _ _ _ _ _ _ _ _ _ s w hp1 c35 c25 c30 (fun W v v' h h' => ?_) c13
    exact (rless_wide (by decide) (by decide) h h' hp1).mono fun _ _ ⟨r, a1, a2, a3⟩ => ⟨r, a1, a2.nv, a3⟩
  · unfold lgV lgE
    rw [if_neg hb, if_neg hb, Z4_eq]
    exact rlargest_bad n s w hb
end
section
theorem DV_zero (c : Int) (s g : Bool) (x : Int) : DV c s g x 0 = .agg #[.int .i64 c, .bool s, .bool g, .int .i64 x, .int .u64 0, .int .u64 0, .int .u64 0, .int .u64 0] := by
  unfold DV; simp only [W4_zero]
theorem sN_bl {N : Nat} (h : N ≠ 0) (x : Int) : bl (sN N x) ≤ bl N + 200000 := by
  unfold sN; rw [bl_shift h]; unfold clZ; omega
theorem sD_bl {N : Nat} (h : N ≠ 0) (x : Int) : bl (sD N x) ≤ bl N + 200000 := by
  unfold sD; rw [bl_shift h]; unfold clZ; omega
set_option maxHeartbeats 2000000 in
/-- the document's Round -/
theorem round_v (n d x : Int) (s : Bool) {N D : Nat} {vn vd : Value} {w : World} (hn : NT 2001 N vn w) (hd : NT 2001 D vd w) (hb : binN n) (hk : knB d) (hD : D ≠ 0) (h1 : bl N ≤ 120000) (h2 : bl D ≤ 120000) :
    Calls Tryz.prog 17 #[.int .i64 n, .int .i64 d, .bool s, vn, vd, .int .i64 x] w fun r w' => r = .returned (.tuple #[A4 (doV n d s N D x), .int .i64 (doF n d s N D x)]) ∧ Below w.heap.size w w' := by
  obtain ⟨f1, f2, f3, f4, f5⟩ := fld_bd hb
  have c47 := fun W => rof_bin hb W
  obtain ⟨gn, kn, cn, rfl, hkn, hz⟩ := hn.zero
  by_cases hN : N = 0
  · have hk0 := hz.2 hN
    subst hk0
    unfold doV doF
    rw [if_pos hN, if_pos hN]
    have c66 := fun W => rpack_any n ⟨1, s, false, leastN n, 0⟩ W (show 0 < 2 ^ 256 by decide)
    rw [show (Dat.v ⟨1, s, false, leastN n, 0⟩) = _ from DV_zero 1 s false (leastN n)] at c66
    exact round_z n d x s gn cn vd w _ _ _ _ _ _ _ _ c47 c66
  · have hk0 : ((kn : Int) == 0) = false := by
      rw [beq_eq_false_iff_ne]
      intro e
      exact hN (hz.1 (by omega))
    have hw := dlow_ways hN hD x
    have hlb := low_bd (sN N x) (sD D x)
    have b1 := sN_bl hN x
    have b2 := sD_bl hD x
    have hld : -3000000 ≤ dLow N D x ∧ dLow N D x ≤ 3000000 := by unfold dLow; omega
    have c67 := fun W (hb' : Below w.heap.size w W) => rscale_nt x (by decide) (hn.next hb') (hd.next hb')
    have c68 := fun W a b (ha : NT (2001 + 3130) (sN N x) a W) (hb' : NT (2001 + 3130) (sD D x) b W) => rexp_nt (by decide) ha hb' (by omega) (by omega)
    have c67b : ∀ W a b k, k = -(dQ n N D x) → NT (2001 + 3130) (sN N x) a W → NT (2001 + 3130) (sD D x) b W → Calls Tryz.prog 30 #[a, b, .int .u64 2, .int .i64 k] W fun r w' => ∃ a' b', r = .returned (.tuple #[a', b']) ∧ NT (2001 + 3130 + 3130) (dA n N D x) a' w' ∧ NT (2001 + 3130 + 3130) (dB n N D x) b' w' ∧ Below W.heap.size W w' := by
      rintro W a b k rfl ha hb'
      exact rscale_nt _ (by decide) ha hb'
    have hB0 : dB n N D x ≠ 0 := sD_ne (sD_ne hD x) _
    have c69 := fun W a b (ha : NT (2001 + 3130 + 3130) (dA n N D x) a W) (hb' : NT (2001 + 3130 + 3130) (dB n N D x) b W) => whole_nt d s hk (by decide) ha hb' hB0
    have c70 := fun W v (hv : NV 41002 (dC n d s N D x) v W) => rlen_nv (by decide) hv
    have c71 := fun W v (hv : NV 41002 (dC n d s N D x) v W) => rright1_nv (by decide) hv
    have c66i := fun W => rpack_any n ⟨2, s, false, 0, 0⟩ W (show 0 < 2 ^ 256 by decide)
    rw [show (Dat.v ⟨2, s, false, 0, 0⟩) = _ from DV_zero 2 s false 0] at c66i
    have hf3 : fN n ≤ 300 := by omega
    have hl3 : -100000 ≤ leastN n ∧ leastN n ≤ 100000 := by omega
    have hm3 : -100000 ≤ mostN n ∧ mostN n ≤ 100000 := by omega
    refine round_w n d x s gn kn cn vd w (nameN n) (widthN n) (fN n) (eN n) (leastN n) (mostN n) (sN N x) (sD D x) (dA n N D x) (dB n N D x) (dC n d s N D x) _ _ (pkV n ⟨2, s, false, 0, 0⟩) (lgV n s) (pkV n ⟨1, s, false, dQ' n d s N D x, dC' n d s N D x⟩) _ _ _ (dLow N D x) (dQ n N D x) (decide (dA n N D x % dB n N D x = 0)) (inB d s) c47 hf3 hl3 hm3 hld rfl hk0 c67 c68 c67b c69 c70 c71 (dC' n d s N D x) (dQ' n d s N D x) (fun h => ⟨if_pos h, if_pos h⟩) (fun h => ⟨if_neg h, if_neg h⟩) _ _ (fun ho => ?_) (fun ho => ?_) (fun W => rlargest_any n s W) (fun W => rfar_kn d s W hk) c66i (fun ho W => rpack_any n ⟨1, s, false, dQ' n d s N D x, dC' n d s N D x⟩ W (do_lt d s x hb hN hD h1 h2 ho))
    · unfold doV doF
      rw [if_neg hN, if_neg hN, if_pos ho, if_pos ho]
      exact ⟨rfl, rfl⟩
    · unfold doV doF
      rw [if_neg hN, if_neg hN, if_neg ho, if_neg ho]
      refine ⟨rfl, ?_⟩
      simp only [decide_eq_true_eq]
attribute [local irreducible] W4 NT NV Nt
end
end Go.Proofs.YtpemdcnneabbfaaGreatDoor
