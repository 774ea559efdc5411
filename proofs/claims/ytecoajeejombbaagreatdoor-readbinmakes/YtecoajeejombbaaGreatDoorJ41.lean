/-
  Texts that the proof leans on, joined: Rt, Wf, Xd, Xe.
-/
import Derived.Test.YtecoajeejombbaaGreatDoorJ40
import Derived.Test.YtecoajeejombbaaGreatDoorJ1
import Derived.Test.YtecoajeejombbaaGreatDoorJ39
import Derived.Test.YtecoajeejombbaaGreatDoorJ19
import Derived.Test.YtecoajeejombbaaGreatDoorJ35
set_option linter.unusedVariables false
set_option linter.unusedSectionVars false
set_option linter.unusedSimpArgs false
set_option maxRecDepth 20000
namespace Go.Proofs.YtecoajeejombbaaGreatDoor
open Go.RowKit
theorem rless_wide {K K' A B : Nat} {v v' : Value} {w : World} (hK : K < 1000000) (hK' : K' < 1000000) (h : NV K A v w) (h' : NV K' B v' w) (hv : B ≤ A) :
    Calls Tryz.prog 89 #[v, v'] w fun e w' => ∃ r, e = .returned r ∧ NT (K + K') (A - B) r w' ∧ Below w.heap.size w w' := by
  obtain ⟨g, k, c, z, rfl, hk, hN, hz⟩ := h
  obtain ⟨g2, k2, c2, z2, rfl, hk2, hN2, hz2⟩ := h'
  refine (rless_tr _ _ k c k2 c2 z z2 w (by omega) (by omega) hN hN2).mono fun e w' ⟨g3, k3, cap3, e1, hk3, hN3, ht, hB⟩ => ⟨_, e1, ⟨g3, k3, cap3, _, rfl, by omega, hN3, ?_, ht⟩, hB⟩
  have ex := val_more hN.2.2.2.1 (max k k2) (by omega)
  have ey := val_more hN2.2.2.2.1 (max k k2) (by omega)
  have e := dif_val hN.2.2.1 hN2.2.2.1 (max k k2)
  rw [borW_end hN.2.2.1 hN2.2.2.1 (by omega), ex, ey] at e
  rw [← val_more hN3.2.2.2.1 _ hk3, val_congr (y := difW z z2) (max k k2) fun i hi => by unfold difZ; rw [if_pos hi]]
  omega
attribute [local irreducible] W4 NT NV

set_option maxHeartbeats 1000000 in
theorem rlargest_bad (n : Int) (s : Bool) (w : World) (h : ¬ binN n) :
    Calls Tryz.prog 83 #[.int .i64 n, .bool s] w fun x w' => x = .returned (.tuple #[Z4, .int .i64 1]) ∧ Below w.heap.size w w' := by
  have c35 := fun w => rbinary_any n w
  rw [decide_eq_false h] at c35
  have hsm := cell_set_map
  clear h
  go_enter Tryz.func83, Tryz.ntmps83
  go_wp2_with (go_at_call 22; refine (c35 _).mono ?_; rintro r w0 ⟨rfl, rfl⟩)
  exact bodyPost_ret (v := .tuple #[Z4, .int .i64 1]) (by simp only [results, Tryz.results83]; go_simp) rfl ⟨rfl, bgo⟩
theorem rlargest_any (n : Int) (s : Bool) (w : World) :
    Calls Tryz.prog 83 #[.int .i64 n, .bool s] w fun x w' => x = .returned (.tuple #[A4 (lgV n s), .int .i64 (lgE n)]) ∧ Below w.heap.size w w' := by
  by_cases hb : binN n
  · have hF := bin_fm hb
    have c25 := fun w => rof_bin hb w
    have c35 : ∀ w, Calls Tryz.prog 22 #[.int .i64 n] w fun x w' => x = .returned (.bool true) ∧ w = w' := fun w => by
      have := rbinary_any n w
      rw [decide_eq_true hb] at this
      exact this.mono fun _ _ ⟨h1, h2⟩ => ⟨h1, h2.symm⟩
    have hf := hF.f240
    have hp1 : 1 ≤ 2 ^ (fN n + 1) := Nat.one_le_two_pow
    have h256 : 2 ^ (fN n + 1) < 2 ^ 256 := Nat.pow_lt_pow_right (by decide) (by omega)
    have c30 := fun w => rpow_nv (fN n + 1) w (by omega)
    have c13 := fun w => rpack_any n ⟨1, s, false, mostN n, 2 ^ (fN n + 1) - 1⟩ w (by show 2 ^ (fN n + 1) - 1 < _; omega)
    have hpf : 2 ^ (fN n + 1) = 2 ^ fN n + 2 ^ fN n := by rw [Nat.pow_succ]; omega
    have hpp : 1 ≤ 2 ^ fN n := Nat.one_le_two_pow
    have hpc : ((2 : Int) ^ eN n) = ((2 ^ eN n : Nat) : Int) := by simp
    have hp := pow_e hF.e2 hF.e15
    have hm := hF.m
    rw [hpc] at hp hm
    have hi : isD (fN n) (leastN n) (mostN n) ⟨1, s, false, mostN n, 2 ^ (fN n + 1) - 1⟩ := Or.inl ⟨rfl, rfl, by show 2 ^ (fN n + 1) - 1 < _; omega, by show leastN n ≤ mostN n; omega, Int.le_refl _, Or.inl (by show 2 ^ fN n ≤ 2 ^ (fN n + 1) - 1; omega)⟩
    have e1 : pkE n ⟨1, s, false, mostN n, 2 ^ (fN n + 1) - 1⟩ = lgE n := by unfold pkE lgE; rw [if_pos hb, if_pos hi, if_pos hb]
    have e2 : pkV n ⟨1, s, false, mostN n, 2 ^ (fN n + 1) - 1⟩ = lgV n s := by
      unfold pkV lgV pk
      rw [if_pos ⟨hb, hi⟩, if_pos hb]
      dsimp only
      rw [if_pos rfl, show (mostN n - leastN n).toNat = 2 ^ eN n - 3 by omega]
      obtain ⟨q, hq⟩ : ∃ q, 2 ^ eN n = q + 3 := ⟨2 ^ eN n - 3, by omega⟩
      rw [hq, show q + 3 - 3 = q by omega, show q + 3 - 2 = q + 1 by omega, Nat.add_mul]
      omega
    rw [e1, e2] at c13
    refine rlargest_ok n _ _ _ _ _ _ _ _ _ _ s w hp1 c35 c25 c30 (fun W v v' h h' => ?_) c13
    exact (rless_wide (by decide) (by decide) h h' hp1).mono fun _ _ ⟨r, a1, a2, a3⟩ => ⟨r, a1, a2.nv, a3⟩
  · unfold lgV lgE
    rw [if_neg hb, if_neg hb, Z4_eq]
    exact rlargest_bad n s w hb
end Go.Proofs.YtecoajeejombbaaGreatDoor

namespace Go.Proofs.YtecoajeejombbaaGreatDoor
open Go.RowKit

theorem DV_zero (c : Int) (s g : Bool) (x : Int) : DV c s g x 0 = .agg #[.int .i64 c, .bool s, .bool g, .int .i64 x, .int .u64 0, .int .u64 0, .int .u64 0, .int .u64 0] := by
  unfold DV; simp only [W4_zero]
theorem sN_bl {N : Nat} (h : N ≠ 0) (x : Int) : bl (sN N x) ≤ bl N + 200000 := by
  unfold sN; rw [bl_shift h]; unfold clZ; omega
theorem sD_bl {N : Nat} (h : N ≠ 0) (x : Int) : bl (sD N x) ≤ bl N + 200000 := by
  unfold sD; rw [bl_shift h]; unfold clZ; omega
set_option maxHeartbeats 2000000 in
/-- the document's Round -/
theorem round_v (n d x : Int) (s : Bool) {N D : Nat} {vn vd : Value} {w : World} (hn : NT 2001 N vn w) (hd : NT 2001 D vd w) (hb : binN n) (hk : knB d) (hD : D ≠ 0) (h1 : bl N ≤ 120000) (h2 : bl D ≤ 120000) :
    Calls Tryz.prog 40 #[.int .i64 n, .int .i64 d, .bool s, vn, vd, .int .i64 x] w fun r w' => r = .returned (.tuple #[A4 (doV n d s N D x), .int .i64 (doF n d s N D x)]) ∧ Below w.heap.size w w' := by
  obtain ⟨f1, f2, f3, f4, f5⟩ := fld_bd hb
  have c47 := fun W => rof_bin hb W
  obtain ⟨gn, kn, cn, rfl, hkn, hz⟩ := hn.zero
  by_cases hN : N = 0
  · have hk0 := hz.2 hN
    subst hk0
    unfold doV doF
    rw [if_pos hN, if_pos hN]
    have c66 := fun W => rpack_any n ⟨1, s, false, leastN n, 0⟩ W (show 0 < 2 ^ 256 by decide)
    rw [show (Dat.v ⟨1, s, false, leastN n, 0⟩) = _ from DV_zero 1 s false (leastN n)] at c66
    exact round_z n d x s gn cn vd w _ _ _ _ _ _ _ _ c47 c66
  · have hk0 : ((kn : Int) == 0) = false := by
      rw [beq_eq_false_iff_ne]
      intro e
      exact hN (hz.1 (by omega))
    have hw := dlow_ways hN hD x
    have hlb := low_bd (sN N x) (sD D x)
    have b1 := sN_bl hN x
    have b2 := sD_bl hD x
    have hld : -3000000 ≤ dLow N D x ∧ dLow N D x ≤ 3000000 := by unfold dLow; omega
    have c67 := fun W (hb' : Below w.heap.size w W) => rscale_nt x (by decide) (hn.next hb') (hd.next hb')
    have c68 := fun W a b (ha : NT (2001 + 3130) (sN N x) a W) (hb' : NT (2001 + 3130) (sD D x) b W) => rexp_nt (by decide) ha hb' (by omega) (by omega)
    have c67b : ∀ W a b k, k = -(dQ n N D x) → NT (2001 + 3130) (sN N x) a W → NT (2001 + 3130) (sD D x) b W → Calls Tryz.prog 39 #[a, b, .int .u64 2, .int .i64 k] W fun r w' => ∃ a' b', r = .returned (.tuple #[a', b']) ∧ NT (2001 + 3130 + 3130) (dA n N D x) a' w' ∧ NT (2001 + 3130 + 3130) (dB n N D x) b' w' ∧ Below W.heap.size W w' := by
      rintro W a b k rfl ha hb'
      exact rscale_nt _ (by decide) ha hb'
    have hB0 : dB n N D x ≠ 0 := sD_ne (sD_ne hD x) _
    have c69 := fun W a b (ha : NT (2001 + 3130 + 3130) (dA n N D x) a W) (hb' : NT (2001 + 3130 + 3130) (dB n N D x) b W) => whole_nt d s hk (by decide) ha hb' hB0
    have c70 := fun W v (hv : NV 41002 (dC n d s N D x) v W) => rlen_nv (by decide) hv
    have c71 := fun W v (hv : NV 41002 (dC n d s N D x) v W) => rright1_nv (by decide) hv
    have c66i := fun W => rpack_any n ⟨2, s, false, 0, 0⟩ W (show 0 < 2 ^ 256 by decide)
    rw [show (Dat.v ⟨2, s, false, 0, 0⟩) = _ from DV_zero 2 s false 0] at c66i
    have hf3 : fN n ≤ 300 := by omega
    have hl3 : -100000 ≤ leastN n ∧ leastN n ≤ 100000 := by omega
    have hm3 : -100000 ≤ mostN n ∧ mostN n ≤ 100000 := by omega
    refine round_w n d x s gn kn cn vd w (nameN n) (widthN n) (fN n) (eN n) (leastN n) (mostN n) (sN N x) (sD D x) (dA n N D x) (dB n N D x) (dC n d s N D x) _ _ (pkV n ⟨2, s, false, 0, 0⟩) (lgV n s) (pkV n ⟨1, s, false, dQ' n d s N D x, dC' n d s N D x⟩) _ _ _ (dLow N D x) (dQ n N D x) (decide (dA n N D x % dB n N D x = 0)) (inB d s) c47 hf3 hl3 hm3 hld rfl hk0 c67 c68 c67b c69 c70 c71 (dC' n d s N D x) (dQ' n d s N D x) (fun h => ⟨if_pos h, if_pos h⟩) (fun h => ⟨if_neg h, if_neg h⟩) _ _ (fun ho => ?_) (fun ho => ?_) (fun W => rlargest_any n s W) (fun W => rfar_kn d s W hk) c66i (fun ho W => rpack_any n ⟨1, s, false, dQ' n d s N D x, dC' n d s N D x⟩ W (do_lt d s x hb hN hD h1 h2 ho))
    · unfold doV doF
      rw [if_neg hN, if_neg hN, if_pos ho, if_pos ho]
      exact ⟨rfl, rfl⟩
    · unfold doV doF
      rw [if_neg hN, if_neg hN, if_neg ho, if_neg ho]
      refine ⟨rfl, ?_⟩
      simp only [decide_eq_true_eq]
end Go.Proofs.YtecoajeejombbaaGreatDoor

namespace Go.Proofs.YtecoajeejombbaaGreatDoor
open Go.RowKit

theorem NT.tight {K K' V : Nat} {v : Value} {w : World} (h : NT K V v w) (hb : bl V ≤ 64 * K') : NT K' V v w := by
  obtain ⟨g, k, cap, z, h1, h2, h3, h4, h5⟩ := h
  exact ⟨g, k, cap, z, h1, by have := (size_bl (m := K') h3.2.2.1 h4).2 hb; omega, h3, h4, h5⟩
theorem rpow10_nv (n : Nat) (w : World) (hn : n ≤ 12000) : Calls Tryz.prog 19 #[.int .u64 10, .int .i64 (n : Int)] w fun r w' => ∃ v, r = .returned v ∧ NV 50000 (10 ^ n) v w' ∧ Below w.heap.size w w' := by
  refine (rpow_any 10 n w (by decide) hn).mono ?_
  rintro r w' ⟨g, k, cap, z, rfl, hk, hN, hv, hb⟩
  exact ⟨_, rfl, ⟨g, k, cap, z, rfl, hk, hN, by rw [hv]; simp⟩, hb⟩
set_option maxHeartbeats 400000 in
theorem rpower10 (n : Nat) (w : World) (hn : n ≤ 12000) : Calls Tryz.prog 79 #[.int .u64 10, .int .i64 (n : Int)] w fun r w' => ∃ v, r = .returned v ∧ NV 50000 (10 ^ n) v w' ∧ Below w.heap.size w w' := by
  have c19 := rpow10_nv n w hn
  go_enter Tryz.func79, Tryz.ntmps79
  go_wp2_with (go_at_call 19; refine c19.mono ?_; rintro r w1 ⟨v, rfl, hv, hb1⟩)
  go_ret
  exact ⟨v, rfl, hv, hb1⟩
section
variable (x : Int) (vn vd : Value) (A KK : Nat) (w : World) (hx : -12000 ≤ x ∧ x ≤ 12000)
include hx
set_option maxHeartbeats 1000000 in
theorem rsc10_pos (h : 0 ≤ x)
    (c79 : Calls Tryz.prog 79 #[.int .u64 10, .int .i64 x] w fun e w' => ∃ p, e = .returned p ∧ Below w.heap.size w w' ∧ Calls Tryz.prog 18 #[vn, p] w' fun e w'' => ∃ r, e = .returned r ∧ NT KK A r w'' ∧ Below w'.heap.size w' w'') :
    Calls Tryz.prog 39 #[vn, vd, .int .u64 10, .int .i64 x] w fun e w' => ∃ r, e = .returned (.tuple #[r, vd]) ∧ NT KK A r w' ∧ Below w.heap.size w w' := by
  have e1 : max x (-60000) = x := by omega
  have e2 : min x 60000 = x := by omega
  go_enter Tryz.func39, Tryz.ntmps39
  go_wp2_with (first
    | (go_at_call 79; refine c79.mono ?_; rintro e w1 ⟨p, rfl, hb1, c17⟩)
    | (go_at_call 18; refine c17.mono ?_; rintro e w2 ⟨r, rfl, hr, hb2⟩))
  exact bodyPost_ret (v := .tuple #[r, vd]) (by simp only [results, Tryz.results39]; go_simp) rfl ⟨_, rfl, hr, hb1.trans (hb2.mono hb1.size)⟩
set_option maxHeartbeats 1000000 in
theorem rsc10_neg (m : Int) (hm : m = -x) (h : ¬ 0 ≤ x)
    (c79 : Calls Tryz.prog 79 #[.int .u64 10, .int .i64 m] w fun e w' => ∃ p, e = .returned p ∧ Below w.heap.size w w' ∧ Calls Tryz.prog 18 #[vd, p] w' fun e w'' => ∃ r, e = .returned r ∧ NT KK A r w'' ∧ Below w'.heap.size w' w'') :
    Calls Tryz.prog 39 #[vn, vd, .int .u64 10, .int .i64 x] w fun e w' => ∃ r, e = .returned (.tuple #[vn, r]) ∧ NT KK A r w' ∧ Below w.heap.size w w' := by
  have e1 : max x (-60000) = x := by omega
  have e2 : min x 60000 = x := by omega
  subst hm
  go_enter Tryz.func39, Tryz.ntmps39
  go_wp2_with (first
    | (go_at_call 79; refine c79.mono ?_; rintro e w1 ⟨p, rfl, hb1, c17⟩)
    | (go_at_call 18; refine c17.mono ?_; rintro e w2 ⟨r, rfl, hr, hb2⟩))
  exact bodyPost_ret (v := .tuple #[vn, r]) (by simp only [results, Tryz.results39]; go_simp) rfl ⟨_, rfl, hr, hb1.trans (hb2.mono hb1.size)⟩
end
theorem ten_bl (k : Nat) : bl (10 ^ k) ≤ 4 * k + 1 := by
  refine bl_le.2 ?_
  have h1 : 10 ^ k ≤ 16 ^ k := Nat.pow_le_pow_left (by decide) k
  have h2 : (16 : Nat) ^ k = 2 ^ (4 * k) := by rw [Nat.pow_mul]
  have h3 : (2 : Nat) ^ (4 * k) < 2 ^ (4 * k + 1) := Nat.pow_lt_pow_right (by decide) (by omega)
  omega
/-- a fraction times a power of ten, the document's -/
theorem rscale10 {N D : Nat} {vn vd : Value} {w : World} (x : Int) (hx : -12000 ≤ x ∧ x ≤ 12000) (h : NT 1001 N vn w) (h' : NT 1001 D vd w) (hN : bl N ≤ 16100) (hD : bl D ≤ 100) :
    Calls Tryz.prog 39 #[vn, vd, .int .u64 10, .int .i64 x] w fun e w' => ∃ a b, e = .returned (.tuple #[a, b]) ∧ NT 2001 (N * 10 ^ x.toNat) a w' ∧ NT 2001 (D * 10 ^ (-x).toNat) b w' ∧ Below w.heap.size w w' := by
  by_cases hp : 0 ≤ x
  · have c79 := rpower10 x.toNat w (by omega)
    rw [show ((x.toNat : Nat) : Int) = x by omega] at c79
    rw [show (-x).toNat = 0 by omega, Nat.pow_zero, Nat.mul_one]
    have b1 := bl_mul N (10 ^ x.toNat)
    have b2 := ten_bl x.toNat
    refine (rsc10_pos x vn vd (N * 10 ^ x.toNat) 2001 w hx hp (c79.mono fun e w' ⟨p, e1, e2, e3⟩ => ⟨p, e1, e3, (rtimes_nt (by decide) (by decide) (h.next e3).nv e2).mono fun e w'' ⟨r, f1, f2, f3⟩ => ⟨r, f1, f2.tight (by omega), f3⟩⟩)).mono fun e w' ⟨r, e1, e2, e3⟩ => ⟨_, _, e1, e2, (h'.next e3).more (by decide), e3⟩
  · have c79 := rpower10 (-x).toNat w (by omega)
    rw [show (((-x).toNat : Nat) : Int) = -x by omega] at c79
    rw [show x.toNat = 0 by omega, Nat.pow_zero, Nat.mul_one]
    have b1 := bl_mul D (10 ^ (-x).toNat)
    have b2 := ten_bl (-x).toNat
    refine (rsc10_neg x vn vd (D * 10 ^ (-x).toNat) 2001 w hx (-x) rfl hp (c79.mono fun e w' ⟨p, e1, e2, e3⟩ => ⟨p, e1, e3, (rtimes_nt (by decide) (by decide) (h'.next e3).nv e2).mono fun e w'' ⟨r, f1, f2, f3⟩ => ⟨r, f1, f2.tight (by omega), f3⟩⟩)).mono fun e w' ⟨r, e1, e2, e3⟩ => ⟨_, _, e1, (h.next e3).more (by decide), e2, e3⟩
set_option maxHeartbeats 400000 in
theorem number_nil (w : World) : Calls Tryz.prog 38 #[.string (B [])] w fun r w' => ∃ v, r = .returned v ∧ NT 1001 0 v w' ∧ Below w.heap.size w w' := by
  have hs : (B []).size = 0 := rfl
  have hN := num_empty w
  go_enter Tryz.func38, Tryz.ntmps38
  go_wp2
  go_loopw [3, 4, 5, 6] (fun t3 t4 u5 u6 wr => t3 = .slice (some ⟨w.heap.size, 0, none⟩) 0 0 ∧ t4 = .int .i64 0 ∧ wr = w.alloc (.cells #[] 23)) (fun _ _ _ _ _ => 0)
  case atStart => exact ⟨rfl, rfl, rfl⟩
  case round =>
    obtain ⟨rfl, rfl, rfl⟩ := hrel
    go_wp2
    go_ret
    exact ⟨_, rfl, ⟨_, 0, 0, fun _ => 0, rfl, by decide, hN, rfl, rfl⟩, below1 _ _⟩
theorem number8 (l : List UInt8) (w : World) (hd : l.all dg = true) (hl : l.length ≤ 4000) : Calls Tryz.prog 38 #[.string (B l)] w fun r w' => ∃ v, r = .returned v ∧ NT 1001 (dV l) v w' ∧ Below w.heap.size w w' := by
  by_cases h0 : l = []
  · subst h0
    exact number_nil w
  · have hlen : 0 < l.length := List.length_pos_iff.2 h0
    obtain ⟨hlt, he⟩ := dV_lt hd
    have hbl : bl (dV l) ≤ 64 * 1001 := bl_10 hlt (by omega)
    have c := number_any (B l) w (by unfold isDigB; rw [dig_B hd, Bool.true_and]; exact decide_eq_true (by rw [B_size]; exact hlen)) (by rw [B_size]; omega)
    refine c.mono fun r w' ⟨g, k, cap, z, e1, hk, hN, hv, hB, hs⟩ => ⟨_, e1, ?_, hB⟩
    have h36 : NT 36000 (dV l) (.slice (some ⟨g, 0, none⟩) k cap) w' := ⟨g, k, cap, z, rfl, hk, hN, by rw [hv, he], hs⟩
    exact h36.tight hbl
attribute [local irreducible] W4 NT NV
section
variable (c : Int) (s g : Bool) (d : List UInt8) (x : Int) (A M f : Nat) (vp : Value) (w : World)
  (c38 : ∀ W, Calls Tryz.prog 38 #[.string (B d)] W fun r w' => ∃ v, r = .returned v ∧ NT 1001 A v w' ∧ Below W.heap.size W w')
include c38
set_option maxHeartbeats 4000000 in
theorem rpay_ge (sv : Int) (h : 0 ≤ sv) (hg : g = false)
    (c78 : ∀ W v, Below w.heap.size w W → NT 1001 A v W → Calls Tryz.prog 78 #[v, vp] W fun r w' => r = .returned (.int .i64 sv) ∧ W = w') (c27 : ∀ W, Calls Tryz.prog 27 #[.slice none 0 0] W fun r w' => r = .returned (A4 0) ∧ Below W.heap.size W w') :
    Calls Tryz.prog 37 #[PV c s g d x, vp] w fun r w' => r = .returned (A4 0) ∧ Below w.heap.size w w' := by
  subst hg
  have hsm := cell_set_map
  unfold PV
  go_enter Tryz.func37, Tryz.ntmps37
  go_wp2_with (first
    | (go_at_call 38; refine (c38 _).mono ?_; rintro r w1 ⟨v1, rfl, hv1, hb1⟩; obtain ⟨hc1, hf1⟩ := bcell hb1; have hz1_0 : w.heap.size < w1.heap.size := lt_below hb1 ltg; have hl1_0 := Nat.le_of_lt hz1_0; have hz1_1 : w.heap.size + 1 < w1.heap.size := lt_below hb1 ltg; have hl1_1 := Nat.le_of_lt hz1_1; have hA1 := bnext (w0 := w) bgo hb1; have hs1 := hA1.size; clear hb1)
    | (go_at_call 78; refine (c78 _ _ bgo hv1).mono ?_; rintro r w2 ⟨rfl, rfl⟩)
    | (go_at_call 27; refine (c27 _).mono ?_; rintro r w3 ⟨rfl, hb3⟩; obtain ⟨hc3, hf3⟩ := bcell hb3; have hz3_0 : w.heap.size < w3.heap.size := lt_below hb3 ltg; have hl3_0 := Nat.le_of_lt hz3_0; have hz3_1 : w.heap.size + 1 < w3.heap.size := lt_below hb3 ltg; have hl3_1 := Nat.le_of_lt hz3_1; have hA3 := bnext (w0 := w) bgo hb3; have hs3 := hA3.size; clear hb3))
  exact bodyPost_ret (v := A4 0) (by simp only [results, Tryz.results37]; go_simp) rfl ⟨rfl, bgo⟩
set_option maxHeartbeats 4000000 in
theorem rpay_ge1 (sv : Int) (h : 0 ≤ sv) (hg : g = true)
    (c78 : ∀ W v, Below w.heap.size w W → NT 1001 A v W → Calls Tryz.prog 78 #[v, vp] W fun r w' => r = .returned (.int .i64 sv) ∧ W = w') (c27 : ∀ W v, NV 1 1 v W → Calls Tryz.prog 27 #[v] W fun r w' => r = .returned (A4 1) ∧ Below W.heap.size W w') :
    Calls Tryz.prog 37 #[PV c s g d x, vp] w fun r w' => r = .returned (A4 1) ∧ Below w.heap.size w w' := by
  subst hg
  have hsm := cell_set_map
  unfold PV
  go_enter Tryz.func37, Tryz.ntmps37
  go_wp2_with (first
    | (go_at_call 38; refine (c38 _).mono ?_; rintro r w1 ⟨v1, rfl, hv1, hb1⟩; obtain ⟨hc1, hf1⟩ := bcell hb1; have hz1_0 : w.heap.size < w1.heap.size := lt_below hb1 ltg; have hl1_0 := Nat.le_of_lt hz1_0; have hz1_1 : w.heap.size + 1 < w1.heap.size := lt_below hb1 ltg; have hl1_1 := Nat.le_of_lt hz1_1; have hA1 := bnext (w0 := w) bgo hb1; have hs1 := hA1.size; clear hb1)
    | (go_at_call 78; refine (c78 _ _ bgo hv1).mono ?_; rintro r w2 ⟨rfl, rfl⟩)
    | (go_at_call 27; refine (c27 _ _ (nv_uno (by simp) rfl (by decide))).mono ?_; rintro r w3 ⟨rfl, hb3⟩; obtain ⟨hc3, hf3⟩ := bcell hb3; have hz3_0 : w.heap.size < w3.heap.size := lt_below hb3 ltg; have hl3_0 := Nat.le_of_lt hz3_0; have hz3_1 : w.heap.size + 1 < w3.heap.size := lt_below hb3 ltg; have hl3_1 := Nat.le_of_lt hz3_1; have hA3 := bnext (w0 := w) bgo hb3; have hs3 := hA3.size; clear hb3))
  exact bodyPost_ret (v := A4 1) (by simp only [results, Tryz.results37]; go_simp) rfl ⟨rfl, bgo⟩
end
set_option maxHeartbeats 4000000 in
/-- a payload that fits -/
theorem rpay_lt (c : Int) (s g : Bool) (d : List UInt8) (x : Int) (A : Nat) (gv kv cv : Nat) (vp : Value) (w w1 : World) (sv : Int) (h : ¬ 0 ≤ sv) (hz : g = true → ((kv : Int) == 0) = false)
    (c38 : ∀ W, Calls Tryz.prog 38 #[.string (B d)] W fun r w' => ∃ gv kv cv, r = .returned (.slice (some ⟨gv, 0, none⟩) kv cv) ∧ (g = true → ((kv : Int) == 0) = false) ∧ NT 1001 A (.slice (some ⟨gv, 0, none⟩) kv cv) w' ∧ Below W.heap.size W w')
    (c78 : ∀ W v, Below w.heap.size w W → NT 1001 A v W → Calls Tryz.prog 78 #[v, vp] W fun r w' => r = .returned (.int .i64 sv) ∧ W = w') (c27 : ∀ W v, NT 1001 A v W → Calls Tryz.prog 27 #[v] W fun r w' => r = .returned (A4 A) ∧ Below W.heap.size W w') :
    Calls Tryz.prog 37 #[PV c s g d x, vp] w fun r w' => r = .returned (A4 A) ∧ Below w.heap.size w w' := by
  have hsm := cell_set_map
  unfold PV
  cases g with
  | false =>
    go_enter Tryz.func37, Tryz.ntmps37
    go_wp2_with (first
      | (go_at_call 38; refine (c38 _).mono ?_; rintro r w1 ⟨gv, kv, cv, rfl, hk, hv1, hb1⟩; obtain ⟨hc1, hf1⟩ := bcell hb1; have hz1_0 : w.heap.size < w1.heap.size := lt_below hb1 ltg; have hl1_0 := Nat.le_of_lt hz1_0; have hz1_1 : w.heap.size + 1 < w1.heap.size := lt_below hb1 ltg; have hl1_1 := Nat.le_of_lt hz1_1; have hA1 := bnext (w0 := w) bgo hb1; have hs1 := hA1.size; clear hb1)
      | (go_at_call 78; refine (c78 _ _ bgo hv1).mono ?_; rintro r w2 ⟨rfl, rfl⟩)
      | (go_at_call 27; refine (c27 _ _ hv1).mono ?_; rintro r w3 ⟨rfl, hb3⟩; obtain ⟨hc3, hf3⟩ := bcell hb3; have hz3_0 : w.heap.size < w3.heap.size := lt_below hb3 ltg; have hl3_0 := Nat.le_of_lt hz3_0; have hz3_1 : w.heap.size + 1 < w3.heap.size := lt_below hb3 ltg; have hl3_1 := Nat.le_of_lt hz3_1; have hA3 := bnext (w0 := w) bgo hb3; have hs3 := hA3.size; clear hb3))
    exact bodyPost_ret (v := A4 A) (by simp only [results, Tryz.results37]; go_simp) rfl ⟨rfl, bgo⟩
  | true =>
    go_enter Tryz.func37, Tryz.ntmps37
    go_wp2_with (first
      | (go_at_call 38; refine (c38 _).mono ?_; rintro r w1 ⟨gv, kv, cv, rfl, hk, hv1, hb1⟩; have hk' := hk rfl; obtain ⟨hc1, hf1⟩ := bcell hb1; have hz1_0 : w.heap.size < w1.heap.size := lt_below hb1 ltg; have hl1_0 := Nat.le_of_lt hz1_0; have hz1_1 : w.heap.size + 1 < w1.heap.size := lt_below hb1 ltg; have hl1_1 := Nat.le_of_lt hz1_1; have hA1 := bnext (w0 := w) bgo hb1; have hs1 := hA1.size; clear hb1)
      | (go_at_call 78; refine (c78 _ _ bgo hv1).mono ?_; rintro r w2 ⟨rfl, rfl⟩)
      | (go_at_call 27; refine (c27 _ _ hv1).mono ?_; rintro r w3 ⟨rfl, hb3⟩; obtain ⟨hc3, hf3⟩ := bcell hb3; have hz3_0 : w.heap.size < w3.heap.size := lt_below hb3 ltg; have hl3_0 := Nat.le_of_lt hz3_0; have hz3_1 : w.heap.size + 1 < w3.heap.size := lt_below hb3 ltg; have hl3_1 := Nat.le_of_lt hz3_1; have hA3 := bnext (w0 := w) bgo hb3; have hs3 := hA3.size; clear hb3))
    exact bodyPost_ret (v := A4 A) (by simp only [results, Tryz.results37]; go_simp) rfl ⟨rfl, bgo⟩
set_option maxHeartbeats 4000000 in
/-- none, of a NaN that signals -/
theorem rpay_z (c : Int) (s : Bool) (d : List UInt8) (x : Int) (vp : Value) (w : World) (sv : Int) (h : ¬ 0 ≤ sv)
    (c38 : ∀ W, Calls Tryz.prog 38 #[.string (B d)] W fun r w' => ∃ gv cv, r = .returned (.slice (some ⟨gv, 0, none⟩) 0 cv) ∧ NT 1001 0 (.slice (some ⟨gv, 0, none⟩) 0 cv) w' ∧ Below W.heap.size W w')
    (c78 : ∀ W v, Below w.heap.size w W → NT 1001 0 v W → Calls Tryz.prog 78 #[v, vp] W fun r w' => r = .returned (.int .i64 sv) ∧ W = w') (c27 : ∀ W v, NV 1 1 v W → Calls Tryz.prog 27 #[v] W fun r w' => r = .returned (A4 1) ∧ Below W.heap.size W w') :
    Calls Tryz.prog 37 #[PV c s true d x, vp] w fun r w' => r = .returned (A4 1) ∧ Below w.heap.size w w' := by
  have hsm := cell_set_map
  unfold PV
  go_enter Tryz.func37, Tryz.ntmps37
  go_wp2_with (first
    | (go_at_call 38; refine (c38 _).mono ?_; rintro r w1 ⟨gv, cv, rfl, hv1, hb1⟩; obtain ⟨hc1, hf1⟩ := bcell hb1; have hz1_0 : w.heap.size < w1.heap.size := lt_below hb1 ltg; have hl1_0 := Nat.le_of_lt hz1_0; have hz1_1 : w.heap.size + 1 < w1.heap.size := lt_below hb1 ltg; have hl1_1 := Nat.le_of_lt hz1_1; have hA1 := bnext (w0 := w) bgo hb1; have hs1 := hA1.size; clear hb1)
    | (go_at_call 78; refine (c78 _ _ bgo hv1).mono ?_; rintro r w2 ⟨rfl, rfl⟩)
    | (go_at_call 27; refine (c27 _ _ (nv_uno (by simp) rfl (by decide))).mono ?_; rintro r w3 ⟨rfl, hb3⟩; obtain ⟨hc3, hf3⟩ := bcell hb3; have hz3_0 : w.heap.size < w3.heap.size := lt_below hb3 ltg; have hl3_0 := Nat.le_of_lt hz3_0; have hz3_1 : w.heap.size + 1 < w3.heap.size := lt_below hb3 ltg; have hl3_1 := Nat.le_of_lt hz3_1; have hA3 := bnext (w0 := w) bgo hb3; have hs3 := hA3.size; clear hb3))
  exact bodyPost_ret (v := A4 1) (by simp only [results, Tryz.results37]; go_simp) rfl ⟨rfl, bgo⟩
set_option maxHeartbeats 1000000 in
theorem bits_opt (a : Option Addr) (k cap : Nat) (z : Nat → Int) (w : World) (h : Num w a k cap z) :
    Calls Tryz.prog 27 #[.slice a k cap] w fun e w' => e = .returned (.agg (arrOf z 4)) ∧ Below w.heap.size w w' := by
  have hw := fun (i : Nat) (o1 o2 : Obj) => word_any a k cap i z ((w.alloc o1).alloc o2) ((h.next (below1 w _)).next (below1 _ _))
  clear h
  go_enter Tryz.func27, Tryz.ntmps27
  go_wp2
  go_loopw [4, 5] (fun u4 i wr => ∃ (j : Nat) (ss : Array Value), j ≤ 4 ∧ i = .int .i64 j ∧ ss.size = 4 ∧ (∀ q h, ss[q]'h = Value.int .u64 (if q < j then z q else 0)) ∧ wr = (w.alloc (.cells #[.int .u64 0, .int .u64 0, .int .u64 0, .int .u64 0] 25)).alloc (.cells ss 25)) (fun _ i _ => 4 - (intOf i).toNat)
  case atStart => exact ⟨0, _, Nat.zero_le _, rfl, rfl, by intro q h; have h' : q < 4 := h; match q, h' with | 0, _ => rfl | 1, _ => rfl | 2, _ => rfl | 3, _ => rfl, rfl⟩
  case round =>
    obtain ⟨j, ss, hj, rfl, hsz, hss, rfl⟩ := hrel
    by_cases h4 : j < 4
    · have h4i : (j : Int) < 4 := by omega
      have h4s : j < ss.size := by omega
      have hsk : ss[j]? = some (.int .u64 0) := by rw [Array.getElem?_eq_getElem h4s, hss j h4s, if_neg (by omega)]
      have HR : Hid (∀ (i : Nat) (h : i < (ss.setIfInBounds j (.int .u64 (z j))).size), (ss.setIfInBounds j (.int .u64 (z j)))[i]'h = Value.int .u64 (if i < j + 1 then z i else 0)) := set_next hss
      have hwj := hw j (.cells #[.int .u64 0, .int .u64 0, .int .u64 0, .int .u64 0] 25) (.cells ss 25)
      clear hss hw
      go_wp2_with (go_at_call 45; refine hwj.mono ?_; rintro e w' ⟨rfl, rfl⟩)
      go_roundw
      case rel => exact ⟨j + 1, ss.setIfInBounds j (.int .u64 (z j)), by omega, by go_num, by simp [hsz], HR.out, rfl⟩
      case measure => simp [intOf]; omega
    · obtain rfl : j = 4 := by omega
      have hss' : ∀ q h, ss[q]'h = Value.int .u64 (z q) := by
        intro q h; rw [hss q h, if_pos (by omega)]
      clear hss hw
      go_wp2
      exact bodyPost_ret (v := .agg (arrOf z 4)) (by simp [results, Tryz.results27, go_sem]; rfl) rfl ⟨rfl, ((Below.refl _ _).alloc (Nat.le_refl _) _).alloc (by simp) _⟩
theorem bits_nil (w : World) : Calls Tryz.prog 27 #[.slice none 0 0] w fun r w' => r = .returned (A4 0) ∧ Below w.heap.size w w' := by
  have h : Num w none 0 0 (fun _ => 0) := ⟨Nat.le_refl _, by unfold maxLen; omega, fun i => ⟨Int.le_refl _, (by decide : (0 : Int) ≤ 18446744073709551615)⟩, fun _ _ => rfl, Or.inl ⟨rfl, rfl⟩⟩
  rw [A4_zero]
  exact bits_opt none 0 0 (fun _ => 0) w h
/-- the document's payload is the program's -/
theorem rpayload8 (c : Int) (s g : Bool) (d : List UInt8) (x : Int) (f K : Nat) (vp : Value) (w : World) (hK : K < 1000000) (hf : f ≤ 240 ∧ 1 ≤ f) (hd : d.all dg = true) (hl : d.length ≤ 4000) (hp : NV K (2 ^ (f - 1)) vp w) :
    Calls Tryz.prog 37 #[PV c s g d x, vp] w fun r w' => r = .returned (A4 (plV f g (dV d))) ∧ Below w.heap.size w w' := by
  have c38 := fun W => number8 d W hd hl
  have c78 : ∀ W v, Below w.heap.size w W → NT 1001 (dV d) v W → Calls Tryz.prog 78 #[v, vp] W fun r w' => r = .returned (.int .i64 (sgn (dV d : Int) ((2 ^ (f - 1) : Nat) : Int))) ∧ W = w' := fun W v hW hv => rcmp_nv (by decide) hK hv.nv (hp.next hW)
  have c27 : ∀ W v, NV 1 1 v W → Calls Tryz.prog 27 #[v] W fun r w' => r = .returned (A4 1) ∧ Below W.heap.size W w' := fun W v hv => bits_nv hv
  have hsw := sgn_ways (dV d : Int) ((2 ^ (f - 1) : Nat) : Int)
  have hcmp : ((f : Int) - 1 < (bl (dV d) : Int)) ↔ 2 ^ (f - 1) ≤ dV d := by
    rw [← bl_ge]; omega
  generalize dV d = A at *
  by_cases hov : 2 ^ (f - 1) ≤ A
  · have hA : plA f A = 0 := if_pos (hcmp.2 hov)
    have hs : 0 ≤ sgn (A : Int) ((2 ^ (f - 1) : Nat) : Int) := by
      rcases hsw with ⟨a, e⟩ | ⟨a, e⟩ | ⟨a, e⟩
      · omega
      · omega
      · omega
    cases g
    · have e : plV f false A = 0 := by unfold plV; rw [hA]; rfl
      rw [e]
      exact rpay_ge c s false d x A vp w c38 _ hs rfl c78 (fun W => bits_nil W)
    · have e : plV f true A = 1 := if_pos ⟨rfl, hA⟩
      rw [e]
      exact rpay_ge1 c s true d x A vp w c38 _ hs rfl c78 c27
  · have hA : plA f A = A := if_neg (fun h => hov (hcmp.1 h))
    have hs : ¬ 0 ≤ sgn (A : Int) ((2 ^ (f - 1) : Nat) : Int) := by
      rcases hsw with ⟨a, e⟩ | ⟨a, e⟩ | ⟨a, e⟩
      · omega
      · omega
      · omega
    by_cases hz : g = true ∧ A = 0
    · obtain ⟨rfl, rfl⟩ := hz
      have e : plV f true 0 = 1 := if_pos ⟨rfl, hA⟩
      rw [e]
      refine rpay_z c s d x vp w _ hs (fun W => (c38 W).mono fun r w' ⟨v, e1, e2, e3⟩ => ?_) c78 c27
      obtain ⟨gv, kv, cv, rfl, _, hzz⟩ := e2.zero
      obtain rfl := hzz.2 rfl
      exact ⟨gv, cv, e1, e2, e3⟩
    · have e : plV f g A = A := by unfold plV; rw [hA, if_neg hz]
      rw [e]
      refine rpay_lt c s g d x A 0 1 0 vp w w _ hs (fun _ => rfl) (fun W => (c38 W).mono fun r w' ⟨v, e1, e2, e3⟩ => ?_) c78 (fun W v hv => bits_nv hv.nv)
      obtain ⟨gv, kv, cv, rfl, _, hzz⟩ := e2.zero
      refine ⟨gv, kv, cv, e1, fun hg => ?_, e2, e3⟩
      rw [beq_eq_false_iff_ne]
      intro h
      exact hz ⟨hg, hzz.1 (by omega)⟩
end Go.Proofs.YtecoajeejombbaaGreatDoor

namespace Go.Proofs.YtecoajeejombbaaGreatDoor
open Go.RowKit
theorem nt_uno {W : World} {g V : Nat} {vi : Int} (hg : g = W.heap.size) (hv : vi = (V : Int)) (hb : V < 18446744073709551616) (h0 : V ≠ 0) : NT 1001 V (.slice (some ⟨g, 0, none⟩) 1 1) (W.alloc (.cells #[.int .u64 vi] 23)) := by
  subst hg hv
  exact ⟨_, 1, 1, oneW V, rfl, by decide, num_one W V (by omega), val_one1 V, by simp [sizeL, oneW]; omega⟩
attribute [local irreducible] W4 NT NV
section
variable (n d : Int) (c : Int) (s g : Bool) (l : List UInt8) (x : Int) (nm : ByteArray) (wd : Int) (f e : Nat) (lo m : Int) (w : World)
set_option maxHeartbeats 2000000 in
theorem rmk_n (c22 : ∀ W, Calls Tryz.prog 22 #[.int .i64 n] W fun r w' => r = .returned (.bool false) ∧ w' = W) :
    Calls Tryz.prog 13 #[.int .i64 n, .int .i64 d, PV c s g l x] w fun r w' => r = .returned (.tuple #[Z4, .int .i64 0, .int .i64 1]) ∧ Below w.heap.size w w' := by
  have hsm := cell_set_map
  unfold PV at *
  go_enter Tryz.func13, Tryz.ntmps13
  go_wp2_with (go_at_call 22; refine (c22 _).mono ?_; rintro r w1 ⟨rfl, rfl⟩)
  exact bodyPost_ret (v := .tuple #[Z4, .int .i64 0, .int .i64 1]) (by simp only [results, Tryz.results13]; go_simp) rfl ⟨rfl, bgo⟩
variable (c22 : ∀ W, Calls Tryz.prog 22 #[.int .i64 n] W fun r w' => r = .returned (.bool true) ∧ W = w')
include c22
set_option maxHeartbeats 2000000 in
theorem rmk_d (c15 : ∀ W, Calls Tryz.prog 15 #[.int .i64 d] W fun r w' => r = .returned (.bool false) ∧ W = w') :
    Calls Tryz.prog 13 #[.int .i64 n, .int .i64 d, PV c s g l x] w fun r w' => r = .returned (.tuple #[Z4, .int .i64 0, .int .i64 1]) ∧ Below w.heap.size w w' := by
  have hsm := cell_set_map
  unfold PV at *
  go_enter Tryz.func13, Tryz.ntmps13
  go_wp2_with (first
    | (go_at_call 22; refine (c22 _).mono ?_; rintro r w1 ⟨rfl, rfl⟩)
    | (go_at_call 15; refine (c15 _).mono ?_; rintro r w1 ⟨rfl, rfl⟩))
  exact bodyPost_ret (v := .tuple #[Z4, .int .i64 0, .int .i64 1]) (by simp only [results, Tryz.results13]; go_simp) rfl ⟨rfl, bgo⟩
variable (c15 : ∀ W, Calls Tryz.prog 15 #[.int .i64 d] W fun r w' => r = .returned (.bool true) ∧ W = w')
include c15
set_option maxHeartbeats 2000000 in
theorem rmk_j (c35 : ∀ W, Below w.heap.size w W → Calls Tryz.prog 35 #[PV c s g l x] W fun r w' => r = .returned (.bool false) ∧ Below W.heap.size W w') :
    Calls Tryz.prog 13 #[.int .i64 n, .int .i64 d, PV c s g l x] w fun r w' => r = .returned (.tuple #[Z4, .int .i64 0, .int .i64 2]) ∧ Below w.heap.size w w' := by
  have hsm := cell_set_map
  unfold PV at *
  go_enter Tryz.func13, Tryz.ntmps13
  go_wp2_with (first
    | (go_at_call 22; refine (c22 _).mono ?_; rintro r w1 ⟨rfl, rfl⟩)
    | (go_at_call 15; refine (c15 _).mono ?_; rintro r w1 ⟨rfl, rfl⟩)
    | (go_at_call 35; refine (c35 _ bgo).mono ?_; rintro r w2 ⟨rfl, hb2⟩; obtain ⟨hc2, hf2⟩ := bcell hb2; have hz2_0 : w.heap.size < w2.heap.size := lt_below hb2 ltg; have hl2_0 := Nat.le_of_lt hz2_0; have hz2_1 : w.heap.size + 1 < w2.heap.size := lt_below hb2 ltg; have hl2_1 := Nat.le_of_lt hz2_1; have hA2 := bnext (w0 := w) bgo hb2; have hs2 := hA2.size; clear hb2))
  exact bodyPost_ret (v := .tuple #[Z4, .int .i64 0, .int .i64 2]) (by simp only [results, Tryz.results13]; go_simp) rfl ⟨rfl, bgo⟩
variable (c35 : ∀ W, Below w.heap.size w W → Calls Tryz.prog 35 #[PV c s g l x] W fun r w' => r = .returned (.bool true) ∧ Below W.heap.size W w')
  (c25 : ∀ W, Calls Tryz.prog 25 #[.int .i64 n] W fun r w' => r = .returned (.tuple #[IV n nm wd f e lo m, .int .i64 0]) ∧ Below W.heap.size W w')
include c35 c25
set_option maxHeartbeats 4000000 in
theorem rmk_2 (hc : c = 2) (R : Nat) (E : Int) (c36 : ∀ W, Calls Tryz.prog 36 #[.int .i64 n, .agg #[.int .i64 2, .bool s, .bool false, .int .i64 0, .int .u64 0, .int .u64 0, .int .u64 0, .int .u64 0]] W fun r w' => r = .returned (.tuple #[A4 R, .int .i64 E]) ∧ Below W.heap.size W w') :
    Calls Tryz.prog 13 #[.int .i64 n, .int .i64 d, PV c s g l x] w fun r w' => r = .returned (.tuple #[A4 R, .int .i64 0, .int .i64 0]) ∧ Below w.heap.size w w' := by
  subst hc
  have hsm := cell_set_map
  unfold PV at *
  go_enter Tryz.func13, Tryz.ntmps13
  go_wp2_with (first
    | (go_at_call 22; refine (c22 _).mono ?_; rintro r w1 ⟨rfl, rfl⟩)
    | (go_at_call 15; refine (c15 _).mono ?_; rintro r w1 ⟨rfl, rfl⟩)
    | (go_at_call 35; refine (c35 _ bgo).mono ?_; rintro r w2 ⟨rfl, hb2⟩; obtain ⟨hc2, hf2⟩ := bcell hb2; have hz2_0 : w.heap.size < w2.heap.size := lt_below hb2 ltg; have hl2_0 := Nat.le_of_lt hz2_0; have hz2_1 : w.heap.size + 1 < w2.heap.size := lt_below hb2 ltg; have hl2_1 := Nat.le_of_lt hz2_1; have hA2 := bnext (w0 := w) bgo hb2; have hs2 := hA2.size; clear hb2)
    | (go_at_call 25; refine (c25 _).mono ?_; rintro r w3 ⟨rfl, hb3⟩; obtain ⟨hc3, hf3⟩ := bcell hb3; have hz3_0 : w.heap.size < w3.heap.size := lt_below hb3 ltg; have hl3_0 := Nat.le_of_lt hz3_0; have hz3_1 : w.heap.size + 1 < w3.heap.size := lt_below hb3 ltg; have hl3_1 := Nat.le_of_lt hz3_1; have hA3 := bnext (w0 := w) bgo hb3; have hs3 := hA3.size; clear hb3)
    | (go_at_call 36; refine (c36 _).mono ?_; rintro r w4 ⟨rfl, hb4⟩; obtain ⟨hc4, hf4⟩ := bcell hb4; have hz4_0 : w.heap.size < w4.heap.size := lt_below hb4 ltg; have hl4_0 := Nat.le_of_lt hz4_0; have hz4_1 : w.heap.size + 1 < w4.heap.size := lt_below hb4 ltg; have hl4_1 := Nat.le_of_lt hz4_1; have hz4_2 : w3.heap.size < w4.heap.size := lt_below hb4 ltg; have hl4_2 := Nat.le_of_lt hz4_2; have hA4 := bnext (w0 := w) bgo hb4; have hs4 := hA4.size; clear hb4))
  exact bodyPost_ret (v := .tuple #[A4 R, .int .i64 0, .int .i64 0]) (by simp only [results, Tryz.results13]; go_simp) rfl ⟨rfl, bgo⟩
set_option maxHeartbeats 4000000 in
theorem rmk_1z (hc : c = 1) (R : Nat) (F : Int) (c38 : ∀ W, Calls Tryz.prog 38 #[.string (B l)] W fun r w' => ∃ gv cv, r = .returned (.slice (some ⟨gv, 0, none⟩) 0 cv) ∧ NT 1001 0 (.slice (some ⟨gv, 0, none⟩) 0 cv) w' ∧ Below W.heap.size W w')
    (c40 : ∀ W v v', NT 1001 0 v W → NT 1001 1 v' W → Calls Tryz.prog 40 #[.int .i64 n, .int .i64 d, .bool s, v, v', .int .i64 0] W fun r w' => r = .returned (.tuple #[A4 R, .int .i64 F]) ∧ Below W.heap.size W w') :
    Calls Tryz.prog 13 #[.int .i64 n, .int .i64 d, PV c s g l x] w fun r w' => r = .returned (.tuple #[A4 R, .int .i64 F, .int .i64 0]) ∧ Below w.heap.size w w' := by
  subst hc
  have hsm := cell_set_map
  unfold PV at *
  go_enter Tryz.func13, Tryz.ntmps13
  go_wp2_with (first
    | (go_at_call 22; refine (c22 _).mono ?_; rintro r w1 ⟨rfl, rfl⟩)
    | (go_at_call 15; refine (c15 _).mono ?_; rintro r w1 ⟨rfl, rfl⟩)
    | (go_at_call 35; refine (c35 _ bgo).mono ?_; rintro r w2 ⟨rfl, hb2⟩; obtain ⟨hc2, hf2⟩ := bcell hb2; have hz2_0 : w.heap.size < w2.heap.size := lt_below hb2 ltg; have hl2_0 := Nat.le_of_lt hz2_0; have hz2_1 : w.heap.size + 1 < w2.heap.size := lt_below hb2 ltg; have hl2_1 := Nat.le_of_lt hz2_1; have hA2 := bnext (w0 := w) bgo hb2; have hs2 := hA2.size; clear hb2)
    | (go_at_call 25; refine (c25 _).mono ?_; rintro r w3 ⟨rfl, hb3⟩; obtain ⟨hc3, hf3⟩ := bcell hb3; have hz3_0 : w.heap.size < w3.heap.size := lt_below hb3 ltg; have hl3_0 := Nat.le_of_lt hz3_0; have hz3_1 : w.heap.size + 1 < w3.heap.size := lt_below hb3 ltg; have hl3_1 := Nat.le_of_lt hz3_1; have hA3 := bnext (w0 := w) bgo hb3; have hs3 := hA3.size; clear hb3)
    | (go_at_call 38; refine (c38 _).mono ?_; rintro r w4 ⟨gv, cv, rfl, hv4, hb4⟩; have hv4' := hv4.next (below1 w4 (.cells #[.int .u64 1] 23)); have hone := nt_uno (W := w4) rfl rfl (by decide) (V := 1) (by decide); obtain ⟨hc4, hf4⟩ := bcell hb4; have hz4_0 : w.heap.size < w4.heap.size := lt_below hb4 ltg; have hl4_0 := Nat.le_of_lt hz4_0; have hz4_1 : w.heap.size + 1 < w4.heap.size := lt_below hb4 ltg; have hl4_1 := Nat.le_of_lt hz4_1; have hz4_2 : w3.heap.size < w4.heap.size := lt_below hb4 ltg; have hl4_2 := Nat.le_of_lt hz4_2; have hA4 := bnext (w0 := w) bgo hb4; have hs4 := hA4.size; clear hb4)
    | (go_at_call 40; refine (c40 _ _ _ hv4' hone).mono ?_; rintro r w5 ⟨rfl, hb5⟩; obtain ⟨hc5, hf5⟩ := bcell hb5; have hz5_0 : w.heap.size < w5.heap.size := lt_below hb5 ltg; have hl5_0 := Nat.le_of_lt hz5_0; have hz5_1 : w.heap.size + 1 < w5.heap.size := lt_below hb5 ltg; have hl5_1 := Nat.le_of_lt hz5_1; have hz5_2 : w3.heap.size < w5.heap.size := lt_below hb5 ltg; have hl5_2 := Nat.le_of_lt hz5_2; have hA5 := bnext (w0 := w) bgo hb5; have hs5 := hA5.size; clear hb5))
  exact bodyPost_ret (v := .tuple #[A4 R, .int .i64 F, .int .i64 0]) (by simp only [results, Tryz.results13]; go_simp) rfl ⟨rfl, bgo⟩
set_option maxHeartbeats 4000000 in
theorem rmk_1 (hc : c = 1) (A A' D' R : Nat) (F : Int) (c38 : ∀ W, Calls Tryz.prog 38 #[.string (B l)] W fun r w' => ∃ gv kv cv, r = .returned (.slice (some ⟨gv, 0, none⟩) kv cv) ∧ (0 : Int) < kv ∧ NT 1001 A (.slice (some ⟨gv, 0, none⟩) kv cv) w' ∧ Below W.heap.size W w')
    (c39 : ∀ W v v' k, k = min (max x (-12000)) 12000 → NT 1001 A v W → NT 1001 1 v' W → Calls Tryz.prog 39 #[v, v', .int .u64 10, .int .i64 k] W fun r w' => ∃ a b, r = .returned (.tuple #[a, b]) ∧ NT 2001 A' a w' ∧ NT 2001 D' b w' ∧ Below W.heap.size W w')
    (c40 : ∀ W v v', NT 2001 A' v W → NT 2001 D' v' W → Calls Tryz.prog 40 #[.int .i64 n, .int .i64 d, .bool s, v, v', .int .i64 0] W fun r w' => r = .returned (.tuple #[A4 R, .int .i64 F]) ∧ Below W.heap.size W w') :
    Calls Tryz.prog 13 #[.int .i64 n, .int .i64 d, PV c s g l x] w fun r w' => r = .returned (.tuple #[A4 R, .int .i64 F, .int .i64 0]) ∧ Below w.heap.size w w' := by
  subst hc
  have hsm := cell_set_map
  unfold PV at *
  go_enter Tryz.func13, Tryz.ntmps13
  go_wp2_with (first
    | (go_at_call 22; refine (c22 _).mono ?_; rintro r w1 ⟨rfl, rfl⟩)
    | (go_at_call 15; refine (c15 _).mono ?_; rintro r w1 ⟨rfl, rfl⟩)
    | (go_at_call 35; refine (c35 _ bgo).mono ?_; rintro r w2 ⟨rfl, hb2⟩; obtain ⟨hc2, hf2⟩ := bcell hb2; have hz2_0 : w.heap.size < w2.heap.size := lt_below hb2 ltg; have hl2_0 := Nat.le_of_lt hz2_0; have hz2_1 : w.heap.size + 1 < w2.heap.size := lt_below hb2 ltg; have hl2_1 := Nat.le_of_lt hz2_1; have hA2 := bnext (w0 := w) bgo hb2; have hs2 := hA2.size; clear hb2)
    | (go_at_call 25; refine (c25 _).mono ?_; rintro r w3 ⟨rfl, hb3⟩; obtain ⟨hc3, hf3⟩ := bcell hb3; have hz3_0 : w.heap.size < w3.heap.size := lt_below hb3 ltg; have hl3_0 := Nat.le_of_lt hz3_0; have hz3_1 : w.heap.size + 1 < w3.heap.size := lt_below hb3 ltg; have hl3_1 := Nat.le_of_lt hz3_1; have hA3 := bnext (w0 := w) bgo hb3; have hs3 := hA3.size; clear hb3)
    | (go_at_call 38; refine (c38 _).mono ?_; rintro r w4 ⟨gv, kv, cv, rfl, hkv, hv4, hb4⟩; have hv4' := hv4.next (below1 w4 (.cells #[.int .u64 1] 23)); have hone := nt_uno (W := w4) rfl rfl (by decide) (V := 1) (by decide); obtain ⟨hc4, hf4⟩ := bcell hb4; have hz4_0 : w.heap.size < w4.heap.size := lt_below hb4 ltg; have hl4_0 := Nat.le_of_lt hz4_0; have hz4_1 : w.heap.size + 1 < w4.heap.size := lt_below hb4 ltg; have hl4_1 := Nat.le_of_lt hz4_1; have hz4_2 : w3.heap.size < w4.heap.size := lt_below hb4 ltg; have hl4_2 := Nat.le_of_lt hz4_2; have hA4 := bnext (w0 := w) bgo hb4; have hs4 := hA4.size; clear hb4)
    | (go_at_call 39; refine (c39 _ _ _ _ rfl hv4' hone).mono ?_; rintro r w5 ⟨a5, b5, rfl, n5, m5, hb5⟩; obtain ⟨hc5, hf5⟩ := bcell hb5; have hz5_0 : w.heap.size < w5.heap.size := lt_below hb5 ltg; have hl5_0 := Nat.le_of_lt hz5_0; have hz5_1 : w.heap.size + 1 < w5.heap.size := lt_below hb5 ltg; have hl5_1 := Nat.le_of_lt hz5_1; have hz5_2 : w3.heap.size < w5.heap.size := lt_below hb5 ltg; have hl5_2 := Nat.le_of_lt hz5_2; have hA5 := bnext (w0 := w) bgo hb5; have hs5 := hA5.size; clear hb5)
    | (go_at_call 40; refine (c40 _ _ _ n5 m5).mono ?_; rintro r w6 ⟨rfl, hb6⟩; obtain ⟨hc6, hf6⟩ := bcell hb6; have hz6_0 : w.heap.size < w6.heap.size := lt_below hb6 ltg; have hl6_0 := Nat.le_of_lt hz6_0; have hz6_1 : w.heap.size + 1 < w6.heap.size := lt_below hb6 ltg; have hl6_1 := Nat.le_of_lt hz6_1; have hz6_2 : w3.heap.size < w6.heap.size := lt_below hb6 ltg; have hl6_2 := Nat.le_of_lt hz6_2; have hA6 := bnext (w0 := w) bgo hb6; have hs6 := hA6.size; clear hb6))
  exact bodyPost_ret (v := .tuple #[A4 R, .int .i64 F, .int .i64 0]) (by simp only [results, Tryz.results13]; go_simp) rfl ⟨rfl, bgo⟩
end
end Go.Proofs.YtecoajeejombbaaGreatDoor
