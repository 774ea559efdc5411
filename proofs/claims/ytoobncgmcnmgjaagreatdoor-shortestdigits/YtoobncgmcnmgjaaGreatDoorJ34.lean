/-
  Texts that the proof leans on, joined: Rq, Xd, Sn9.
-/
import Derived.Test.YtoobncgmcnmgjaaGreatDoorJ33
import Derived.Test.YtoobncgmcnmgjaaGreatDoorJ1
import Derived.Test.YtoobncgmcnmgjaaGreatDoorJ25
import Derived.Test.YtoobncgmcnmgjaaGreatDoorJ31
import Derived.Test.YtoobncgmcnmgjaaGreatDoorJ19
import Derived.Deep.RegionWith
import Derived.Test.YtoobncgmcnmgjaaGreatDoorJ20
import Derived.Test.YtoobncgmcnmgjaaGreatDoorJ16
import Derived.Test.YtoobncgmcnmgjaaGreatDoorJ32
set_option linter.unusedVariables false
set_option linter.unusedSectionVars false
set_option linter.unusedSimpArgs false
set_option maxRecDepth 20000
namespace Go.Proofs.YtoobncgmcnmgjaaGreatDoor
open Go.RowKit

set_option maxHeartbeats 1000000 in
theorem rpack_bad (n : Int) (d : Dat) (w : World) (h : ¬ binN n) :
    Calls Tryz.prog 21 #[.int .i64 n, d.v] w fun x w' => x = .returned (.tuple #[Z4, .int .i64 1]) ∧ Below w.heap.size w w' := by
  have c35 := fun w => rbinary_any n w
  rw [decide_eq_false h] at c35
  obtain ⟨c, s, g, x, k⟩ := d
  unfold Dat.v
  dsimp only
  have hsm := cell_set_map
  clear h
  go_enter Tryz.func21, Tryz.ntmps21
  go_wp2_with (go_at_call 41; refine (c35 _).mono ?_; rintro r w0 ⟨rfl, rfl⟩)
  exact bodyPost_ret (v := .tuple #[Z4, .int .i64 1]) (by simp only [results, Tryz.results21]; go_simp) rfl ⟨rfl, bgo⟩
set_option maxHeartbeats 1000000 in
theorem rpack_none (n : Int) (nm : ByteArray) (wd : Int) (f e : Nat) (l m : Int) (c x : Int) (s g : Bool) (k : Nat) (w : World)
    (c35 : ∀ w, Calls Tryz.prog 41 #[.int .i64 n] w fun x w' => x = .returned (.bool true) ∧ w = w')
    (c25 : ∀ w, Calls Tryz.prog 25 #[.int .i64 n] w fun x w' => x = .returned (.tuple #[IV n nm wd f e l m, .int .i64 0]) ∧ Below w.heap.size w w')
    (c36 : ∀ w, Calls Tryz.prog 54 #[IV n nm wd f e l m, DV c s g x k] w fun r w' => r = .returned (.bool false) ∧ Below w.heap.size w w') :
    Calls Tryz.prog 21 #[.int .i64 n, DV c s g x k] w fun x w' => x = .returned (.tuple #[Z4, .int .i64 3]) ∧ Below w.heap.size w w' := by
  have hsm := cell_set_map
  go_enter Tryz.func21, Tryz.ntmps21
  go_wp2_with (first
    | (go_at_call 41; refine (c35 _).mono ?_; rintro r w0 ⟨rfl, rfl⟩)
    | (go_at_call 25; refine (c25 _).mono ?_; rintro x w1 ⟨rfl, hb1⟩; obtain ⟨hc1, hf1⟩ := bcell hb1; have hz1_0 : w.heap.size < w1.heap.size := lt_below hb1 ltg; have hl1_0 := Nat.le_of_lt hz1_0; have hz1_1 : w.heap.size + 1 < w1.heap.size := lt_below hb1 ltg; have hl1_1 := Nat.le_of_lt hz1_1; have hA1 := bnext (w0 := w) bgo hb1; have hs1 := hA1.size; clear hb1)
    | (go_at_call 54; refine (c36 _).mono ?_; rintro x w2 ⟨rfl, hb2⟩; obtain ⟨hc2, hf2⟩ := bcell hb2; have hz2_0 : w.heap.size < w2.heap.size := lt_below hb2 ltg; have hl2_0 := Nat.le_of_lt hz2_0; have hz2_1 : w.heap.size + 1 < w2.heap.size := lt_below hb2 ltg; have hl2_1 := Nat.le_of_lt hz2_1; have hz2_2 : w1.heap.size < w2.heap.size := lt_below hb2 ltg; have hl2_2 := Nat.le_of_lt hz2_2; have hA2 := bnext (w0 := w) bgo hb2; have hs2 := hA2.size; clear hb2))
  exact bodyPost_ret (v := .tuple #[Z4, .int .i64 3]) (by simp only [results, Tryz.results21]; go_simp) rfl ⟨rfl, bgo⟩
theorem rof_bin {n : Int} (hb : binN n) (w : World) : Calls Tryz.prog 25 #[.int .i64 n] w fun x w' => x = .returned (.tuple #[IV n (nameN n) (widthN n) (fN n) (eN n) (leastN n) (mostN n), .int .i64 0]) ∧ Below w.heap.size w w' := by
  obtain ⟨hok, hb2, hpr, hex, hwd, hpy⟩ := bin_fields hb
  obtain ⟨hnum, hden⟩ := bin_more hb
  have c25 := rofv_any n w
  rw [show infoE n = 0 from if_pos hok, hnum, hb2, hpr, hex, hden, hpy] at c25
  exact c25
theorem rpack_any (n : Int) (d : Dat) (w : World) (hk : d.k < 2 ^ 256) :
    Calls Tryz.prog 21 #[.int .i64 n, d.v] w fun x w' => x = .returned (.tuple #[A4 (pkV n d), .int .i64 (pkE n d)]) ∧ Below w.heap.size w w' := by
  by_cases hb : binN n
  · have hF := bin_fm hb
    have c25 := fun w => rof_bin hb w
    have c35 : ∀ w, Calls Tryz.prog 41 #[.int .i64 n] w fun x w' => x = .returned (.bool true) ∧ w = w' := fun w => by
      have := rbinary_any n w
      rw [decide_eq_true hb] at this
      exact this.mono fun _ _ ⟨h1, h2⟩ => ⟨h1, h2.symm⟩
    have c36 := fun w => ris_any n (nameN n) (widthN n) (fN n) (eN n) (leastN n) (mostN n) d w hF hk
    by_cases hi : isD (fN n) (leastN n) (mostN n) d
    · rw [decide_eq_true hi] at c36
      have e1 : pkE n d = 0 := by unfold pkE; rw [if_pos hb, if_pos hi]
      have e2 : pkV n d = pk (fN n) (eN n) (leastN n) d := by unfold pkV; rw [if_pos ⟨hb, hi⟩]
      have h256 := pkV_256 n d
      rw [e2] at h256
      rw [e1, e2]
      clear e1 e2
      have hf : 2 ≤ fN n ∧ fN n ≤ 240 := ⟨hF.f2, hF.f240⟩
      have he := hF.e15
      have hfe := hF.fe
      have hpc : ((2 : Int) ^ eN n) = ((2 ^ eN n : Nat) : Int) := by simp
      have hp := pow_e hF.e2 hF.e15
      rw [hpc] at hp
      have hAll : (2 : Int) ^ eN n - 1 = ((2 ^ eN n - 1 : Nat) : Int) := by rw [hpc]; omega
      have hl1 := hF.l1
      have hl0 := hF.l0
      have hm := hF.m
      rw [hpc] at hm
      generalize fN n = f at *
      generalize eN n = e at *
      generalize leastN n = l at *
      generalize mostN n = m at *
      obtain ⟨c, s, g, x, k⟩ := d
      unfold Dat.v at *
      dsimp only at hk c36 ⊢
      have hBs : (if s then 2 ^ (f + e) else 0) < 2 ^ 256 := by
        cases s
        · rw [if_neg (by decide)]; decide
        · exact Nat.pow_lt_pow_right (by decide) (by omega)
      have cS : s = true → ∀ W v, NV 1 1 v W → Calls Tryz.prog 55 #[Z4, v, .int .i64 ((f : Int) + e)] W fun r w' => r = .returned (A4 (if s then 2 ^ (f + e) else 0)) ∧ Below W.heap.size W w' := fun hs W v hv => by
        have := lay_any 0 1 (f + e) 1 v W (by decide) (by decide) (by omega) hv
        rw [Z4_eq, Int.natCast_add, Nat.zero_add, Nat.one_mul] at this
        rw [hs, if_pos rfl]; exact this
      have hB0 : s = false → ∀ i, W4 (if s then 2 ^ (f + e) else 0) i = 0 := fun hs i => by rw [hs, if_neg (by decide), W4_zero]
      have hNv : val (lowW (W4 k) 4) 4 = (k : Int) := by
        rw [val_congr (x := lowW (W4 k) 4) (y := W4 k) 4 (fun i hi => lowW_lt hi), W4_val4 hk]
      unfold pk at h256 ⊢
      dsimp only at h256 ⊢
      rcases hi with ⟨hc, hg, hk1, hx1, hx2, hx3⟩ | ⟨hc, hg, hx, hk0⟩ | ⟨hc, hx, hk1, hg⟩
      · dsimp only at hc hg hk1 hx1 hx2 hx3
        subst hc
        rw [if_pos rfl] at h256 ⊢
        generalize (if s then 2 ^ (f + e) else 0) = Bs at *
        have hL := len4_le (k := f) hk
        have hpf : 2 ^ (f + 1) = 2 ^ f + 2 ^ f := by rw [Nat.pow_succ]; omega
        have hFr : k % 2 ^ f < 2 ^ f := Nat.mod_lt _ (Nat.two_pow_pos _)
        have hFk : k % 2 ^ f ≤ k := Nat.mod_le _ _
        have c26 : ∀ W, Calls Tryz.prog 46 #[A4 k, .int .i64 0, .int .i64 f] W fun e w' => ∃ r, e = .returned r ∧ NV 19 (k % 2 ^ f) r w' ∧ Below W.heap.size W w' := fun W => by
          have := field_any k 0 f W hk (by decide) (by omega)
          rw [show ((0 : Nat) : Int) = 0 from rfl, Nat.pow_zero, Nat.div_one] at this
          exact this.mono fun _ _ ⟨r, h1, h2, h3⟩ => ⟨r, h1, h2.nv, h3⟩
        have cF : ∀ W v, NV 19 (k % 2 ^ f) v W → Calls Tryz.prog 55 #[A4 Bs, v, .int .i64 0] W fun r w' => r = .returned (A4 (Bs + k % 2 ^ f)) ∧ Below W.heap.size W w' := fun W v hv => by
          have := lay_any Bs (k % 2 ^ f) 0 19 v W hBs (by decide) (by decide) hv
          rw [show ((0 : Nat) : Int) = 0 from rfl, Nat.pow_zero, Nat.mul_one] at this
          exact this
        have c38 : ∀ W, Num W (some ⟨w.heap.size, 4, none⟩) 4 4 (lowW (W4 k) 4) → Calls Tryz.prog 56 #[.slice (some ⟨w.heap.size, 4, none⟩) 4 4] W fun e w' => e = .returned (.int .i64 (lenL (W4 k) 4)) ∧ W = w' := fun W hN => by
          have := rlen_num (some ⟨w.heap.size, 4, none⟩) 4 4 (lowW (W4 k) 4) W (by decide) hN
          rw [lenL_low] at this
          exact this
        have hmul : ((x - l).toNat + 1) * 2 ^ f = (x - l).toNat * 2 ^ f + 2 ^ f := by rw [Nat.add_mul, Nat.one_mul]
        refine rpack1 n _ _ f e (2 ^ e - 1) _ Bs l m x s g k w hf he hAll c35 c25 cS hB0 c36 (Bs + k % 2 ^ f) (k % 2 ^ f) ((x - l).toNat + 1) (lenL (W4 k) 4) (by omega) (by omega) (by omega) c38 ?_ c26 cF ?_
        · intro hlt W hN
          have hkf : k < 2 ^ f := hL.1 (by omega)
          obtain rfl : x = l := by omega
          have := lay_off Bs k 0 4 w.heap.size 4 4 _ W hBs (by decide) (by decide) hN hNv
          rw [show ((0 : Nat) : Int) = 0 from rfl, Nat.pow_zero, Nat.mul_one] at this
          rw [Int.sub_self, Int.toNat_zero, Nat.zero_mul, Nat.zero_add, Nat.add_comm k]
          exact this
        · intro hlt W v hv
          have hkf : 2 ^ f ≤ k := by
            rcases Nat.lt_or_ge k (2 ^ f) with hh | hh
            · have := hL.2 hh; omega
            · exact hh
          have hke : k % 2 ^ f + 2 ^ f = k := by
            rw [Nat.mod_eq_sub_mod hkf, Nat.mod_eq_of_lt (by omega)]; omega
          have := lay_any (Bs + k % 2 ^ f) ((x - l).toNat + 1) f 1 v W (by omega) (by decide) (by omega) hv
          rw [show Bs + k % 2 ^ f + ((x - l).toNat + 1) * 2 ^ f = (x - l).toNat * 2 ^ f + k + Bs by omega] at this
          exact this
      · dsimp only at hc hg hx hk0
        subst hc
        rw [if_neg (by decide), if_pos rfl, Nat.add_zero] at h256 ⊢
        generalize (if s then 2 ^ (f + e) else 0) = Bs at *
        refine rpack2 n _ _ f e (2 ^ e - 1) _ Bs l m x s g k w hf he hAll c35 c25 cS hB0 c36 fun W v hv => ?_
        have := lay_any Bs (2 ^ e - 1) f 1 v W hBs (by decide) (by omega) hv
        rw [Nat.add_comm Bs] at this
        exact this
      · dsimp only at hc hx hk1 hg
        subst hc
        rw [if_neg (by decide), if_neg (by decide)] at h256 ⊢
        generalize (if s then 2 ^ (f + e) else 0) = Bs at *
        generalize hA : (2 ^ e - 1) * 2 ^ f = A at *
        have hlt : A + k + Bs < 2 ^ 256 := by cases g <;> simp at h256 <;> omega
        refine rpack3 n _ _ f e (2 ^ e - 1) _ Bs l m x s g k w hf he hAll c35 c25 cS hB0 c36 (Bs + A) (Bs + A + k) ?_ ?_ ?_ ?_
        · intro W v hv
          have := lay_any Bs (2 ^ e - 1) f 1 v W hBs (by decide) (by omega) hv
          rw [hA] at this
          exact this
        · intro W hN
          have := lay_off (Bs + A) k 0 4 w.heap.size 4 4 _ W (by omega) (by decide) (by decide) hN hNv
          rw [show ((0 : Nat) : Int) = 0 from rfl, Nat.pow_zero, Nat.mul_one] at this
          exact this
        · intro hg W v hv
          have := lay_any (Bs + A + k) 1 (f - 1) 1 v W (by omega) (by decide) (by omega) hv
          rw [show ((f - 1 : Nat) : Int) = (f : Int) - 1 by omega, Nat.one_mul] at this
          subst hg
          rw [if_neg (by decide), show A + (k + 2 ^ (f - 1)) + Bs = Bs + A + k + 2 ^ (f - 1) by omega]
          exact this
        · intro hg
          subst hg
          rw [if_pos rfl]; omega
    · rw [decide_eq_false hi] at c36
      have e1 : pkE n d = 3 := by unfold pkE; rw [if_pos hb, if_neg hi]
      have e2 : pkV n d = 0 := by unfold pkV; exact if_neg fun h => hi h.2
      rw [e1, e2, Z4_eq]
      exact rpack_none n _ _ _ _ _ _ _ _ _ _ _ w c35 c25 c36
  · have e1 : pkV n d = 0 := if_neg fun h => hb h.1
    have e2 : pkE n d = 1 := if_neg hb
    rw [e1, e2, Z4_eq]
    exact rpack_bad n d w hb
end Go.Proofs.YtoobncgmcnmgjaaGreatDoor

namespace Go.Proofs.YtoobncgmcnmgjaaGreatDoor
open Go.RowKit

theorem NT.tight {K K' V : Nat} {v : Value} {w : World} (h : NT K V v w) (hb : bl V ≤ 64 * K') : NT K' V v w := by
  obtain ⟨g, k, cap, z, h1, h2, h3, h4, h5⟩ := h
  exact ⟨g, k, cap, z, h1, by have := (size_bl (m := K') h3.2.2.1 h4).2 hb; omega, h3, h4, h5⟩
theorem rpow10_nv (n : Nat) (w : World) (hn : n ≤ 12000) : Calls Tryz.prog 48 #[.int .u64 10, .int .i64 (n : Int)] w fun r w' => ∃ v, r = .returned v ∧ NV 50000 (10 ^ n) v w' ∧ Below w.heap.size w w' := by
  refine (rpow_any 10 n w (by decide) (by omega)).mono ?_
  rintro r w' ⟨g, k, cap, z, rfl, hk, hN, hv, hb⟩
  exact ⟨_, rfl, ⟨g, k, cap, z, rfl, by omega, hN, by rw [hv]; simp⟩, hb⟩
set_option maxHeartbeats 400000 in
theorem rpower10 (n : Nat) (w : World) (hn : n ≤ 12000) : Calls Tryz.prog 66 #[.int .u64 10, .int .i64 (n : Int)] w fun r w' => ∃ v, r = .returned v ∧ NV 50000 (10 ^ n) v w' ∧ Below w.heap.size w w' := by
  have c19 := rpow10_nv n w hn
  go_enter Tryz.func66, Tryz.ntmps66
  go_wp2_with (go_at_call 48; refine c19.mono ?_; rintro r w1 ⟨v, rfl, hv, hb1⟩)
  go_ret
  exact ⟨v, rfl, hv, hb1⟩
section
variable (x : Int) (vn vd : Value) (A KK : Nat) (w : World) (hx : -12000 ≤ x ∧ x ≤ 12000)
include hx
set_option maxHeartbeats 1000000 in
theorem rsc10_pos (h : 0 ≤ x)
    (c79 : Calls Tryz.prog 66 #[.int .u64 10, .int .i64 x] w fun e w' => ∃ p, e = .returned p ∧ Below w.heap.size w w' ∧ Calls Tryz.prog 32 #[vn, p] w' fun e w'' => ∃ r, e = .returned r ∧ NT KK A r w'' ∧ Below w'.heap.size w' w'') :
    Calls Tryz.prog 30 #[vn, vd, .int .u64 10, .int .i64 x] w fun e w' => ∃ r, e = .returned (.tuple #[r, vd]) ∧ NT KK A r w' ∧ Below w.heap.size w w' := by
  have e1 : max x (-60000) = x := by omega
  have e2 : min x 60000 = x := by omega
  go_enter Tryz.func30, Tryz.ntmps30
  go_wp2_with (first
    | (go_at_call 66; refine c79.mono ?_; rintro e w1 ⟨p, rfl, hb1, c17⟩)
    | (go_at_call 32; refine c17.mono ?_; rintro e w2 ⟨r, rfl, hr, hb2⟩))
  exact bodyPost_ret (v := .tuple #[r, vd]) (by simp only [results, Tryz.results30]; go_simp) rfl ⟨_, rfl, hr, hb1.trans (hb2.mono hb1.size)⟩
set_option maxHeartbeats 1000000 in
theorem rsc10_neg (m : Int) (hm : m = -x) (h : ¬ 0 ≤ x)
    (c79 : Calls Tryz.prog 66 #[.int .u64 10, .int .i64 m] w fun e w' => ∃ p, e = .returned p ∧ Below w.heap.size w w' ∧ Calls Tryz.prog 32 #[vd, p] w' fun e w'' => ∃ r, e = .returned r ∧ NT KK A r w'' ∧ Below w'.heap.size w' w'') :
    Calls Tryz.prog 30 #[vn, vd, .int .u64 10, .int .i64 x] w fun e w' => ∃ r, e = .returned (.tuple #[vn, r]) ∧ NT KK A r w' ∧ Below w.heap.size w w' := by
  have e1 : max x (-60000) = x := by omega
  have e2 : min x 60000 = x := by omega
  subst hm
  go_enter Tryz.func30, Tryz.ntmps30
  go_wp2_with (first
    | (go_at_call 66; refine c79.mono ?_; rintro e w1 ⟨p, rfl, hb1, c17⟩)
    | (go_at_call 32; refine c17.mono ?_; rintro e w2 ⟨r, rfl, hr, hb2⟩))
  exact bodyPost_ret (v := .tuple #[vn, r]) (by simp only [results, Tryz.results30]; go_simp) rfl ⟨_, rfl, hr, hb1.trans (hb2.mono hb1.size)⟩
end
theorem ten_bl (k : Nat) : bl (10 ^ k) ≤ 4 * k + 1 := by
  refine bl_le.2 ?_
  have h1 : 10 ^ k ≤ 16 ^ k := Nat.pow_le_pow_left (by decide) k
  have h2 : (16 : Nat) ^ k = 2 ^ (4 * k) := by rw [Nat.pow_mul]
  have h3 : (2 : Nat) ^ (4 * k) < 2 ^ (4 * k + 1) := Nat.pow_lt_pow_right (by decide) (by omega)
  omega
set_option maxHeartbeats 400000 in
theorem number_nil (w : World) : Calls Tryz.prog 19 #[.string (B [])] w fun r w' => ∃ v, r = .returned v ∧ NT 1001 0 v w' ∧ Below w.heap.size w w' := by
  have hs : (B []).size = 0 := rfl
  have hN := num_empty w
  go_enter Tryz.func19, Tryz.ntmps19
  go_wp2
  go_loopw [3, 4, 5, 6] (fun t3 t4 u5 u6 wr => t3 = .slice (some ⟨w.heap.size, 0, none⟩) 0 0 ∧ t4 = .int .i64 0 ∧ wr = w.alloc (.cells #[] 22)) (fun _ _ _ _ _ => 0)
  case atStart => exact ⟨rfl, rfl, rfl⟩
  case round =>
    obtain ⟨rfl, rfl, rfl⟩ := hrel
    go_wp2
    go_ret
    exact ⟨_, rfl, ⟨_, 0, 0, fun _ => 0, rfl, by decide, hN, rfl, rfl⟩, below1 _ _⟩
theorem number8 (l : List UInt8) (w : World) (hd : l.all dg = true) (hl : l.length ≤ 4000) : Calls Tryz.prog 19 #[.string (B l)] w fun r w' => ∃ v, r = .returned v ∧ NT 1001 (dV l) v w' ∧ Below w.heap.size w w' := by
  by_cases h0 : l = []
  · subst h0
    exact number_nil w
  · have hlen : 0 < l.length := List.length_pos_iff.2 h0
    obtain ⟨hlt, he⟩ := dV_lt hd
    have hbl : bl (dV l) ≤ 64 * 1001 := bl_10 hlt (by omega)
    have c := number_any (B l) w (by unfold isDigB; rw [dig_B hd, Bool.true_and]; exact decide_eq_true (by rw [B_size]; exact hlen)) (by rw [B_size]; omega)
    refine c.mono fun r w' ⟨g, k, cap, z, e1, hk, hN, hv, hB, hs⟩ => ⟨_, e1, ?_, hB⟩
    have h36 : NT 36000 (dV l) (.slice (some ⟨g, 0, none⟩) k cap) w' := ⟨g, k, cap, z, rfl, hk, hN, by rw [hv, he], hs⟩
    exact h36.tight hbl
attribute [local irreducible] W4 NT NV
end Go.Proofs.YtoobncgmcnmgjaaGreatDoor

namespace Go.Proofs.YtoobncgmcnmgjaaGreatDoor
open Go.RowKit

theorem rscale2 {N D : Nat} {vn vd : Value} {w : World} (x : Int) (hx : -17000 ≤ x ∧ x ≤ 17000) (h : NT 900 N vn w) (h' : NT 900 D vd w) (hN : bl N ≤ 300) (hD : bl D ≤ 300) :
    Calls Tryz.prog 30 #[vn, vd, .int .u64 2, .int .i64 x] w fun e w' => ∃ a b, e = .returned (.tuple #[a, b]) ∧ NT 900 (N * 2 ^ x.toNat) a w' ∧ NT 900 (D * 2 ^ (-x).toNat) b w' ∧ Below w.heap.size w w' := by
  have hc : clZ x = x := by unfold clZ; omega
  have e1 : sN N x = N * 2 ^ x.toNat := by unfold sN; rw [hc]
  have e2 : sD D x = D * 2 ^ (-x).toNat := by unfold sD; rw [hc]
  have a1 := bl_mul N (2 ^ x.toNat)
  have a2 := bl_mul D (2 ^ (-x).toNat)
  have b1 := two_bl x.toNat
  have b2 := two_bl (-x).toNat
  refine (rscale_nt x (by decide) h h').mono fun e w' ⟨a, b, h1, h2, h3, h4⟩ => ⟨a, b, h1, ?_, ?_, h4⟩
  · rw [e1] at h2; exact h2.tight (by omega)
  · rw [e2] at h3; exact h3.tight (by omega)
theorem rscale10w {N D : Nat} {vn vd : Value} {w : World} (x : Int) (hx : -6100 ≤ x ∧ x ≤ 6100) (h : NT 900 N vn w) (h' : NT 900 D vd w) (hN : bl N ≤ 30000) (hD : bl D ≤ 30000) :
    Calls Tryz.prog 30 #[vn, vd, .int .u64 10, .int .i64 x] w fun e w' => ∃ a b, e = .returned (.tuple #[a, b]) ∧ NT 900 (N * 10 ^ x.toNat) a w' ∧ NT 900 (D * 10 ^ (-x).toNat) b w' ∧ Below w.heap.size w w' := by
  by_cases hp : 0 ≤ x
  · have c79 := rpower10 x.toNat w (by omega)
    rw [show ((x.toNat : Nat) : Int) = x by omega] at c79
    rw [show (-x).toNat = 0 by omega, Nat.pow_zero, Nat.mul_one]
    have b1 := bl_mul N (10 ^ x.toNat)
    have b2 := ten_bl x.toNat
    refine (rsc10_pos x vn vd (N * 10 ^ x.toNat) 900 w (by omega) hp (c79.mono fun e w' ⟨p, e1, e2, e3⟩ => ⟨p, e1, e3, (rtimes_nt (by decide) (by decide) (h.next e3).nv e2).mono fun e w'' ⟨r, f1, f2, f3⟩ => ⟨r, f1, f2.tight (by omega), f3⟩⟩)).mono fun e w' ⟨r, e1, e2, e3⟩ => ⟨_, _, e1, e2, h'.next e3, e3⟩
  · have c79 := rpower10 (-x).toNat w (by omega)
    rw [show (((-x).toNat : Nat) : Int) = -x by omega] at c79
    rw [show x.toNat = 0 by omega, Nat.pow_zero, Nat.mul_one]
    have b1 := bl_mul D (10 ^ (-x).toNat)
    have b2 := ten_bl (-x).toNat
    refine (rsc10_neg x vn vd (D * 10 ^ (-x).toNat) 900 w (by omega) (-x) rfl hp (c79.mono fun e w' ⟨p, e1, e2, e3⟩ => ⟨p, e1, e3, (rtimes_nt (by decide) (by decide) (h'.next e3).nv e2).mono fun e w'' ⟨r, f1, f2, f3⟩ => ⟨r, f1, f2.tight (by omega), f3⟩⟩)).mono fun e w' ⟨r, e1, e2, e3⟩ => ⟨_, _, e1, h.next e3, e2, e3⟩
theorem nt_at0 {W : World} {g k : Nat} (hk : k < 2 ^ 256) (hg : g < W.heap.size) (h0 : W.cell? ⟨g, 0, none⟩ = some (.int .u64 (W4 k 0))) (h1 : W.cell? ⟨g, 1, none⟩ = some (.int .u64 (W4 k 1))) (h2 : W.cell? ⟨g, 2, none⟩ = some (.int .u64 (W4 k 2))) (h3 : W.cell? ⟨g, 3, none⟩ = some (.int .u64 (W4 k 3))) :
    Nt 4 k (.slice (some ⟨g, 0, none⟩) 4 4) W := by
  unfold Nt
  refine ⟨some ⟨g, 0, none⟩, 4, 4, fun i => if i < 4 then W4 k i else 0, rfl, Nat.le_refl _, ⟨Nat.le_refl _, by unfold maxLen; omega, fun i => ?_, fun i hi => if_neg (by omega), Or.inr ⟨g, 0, rfl, hg, fun i hi => ?_⟩⟩, ?_⟩
  · dsimp only
    split
    · exact W4_words k i
    · exact ⟨Int.le_refl _, by decide⟩
  · have : i = 0 ∨ i = 1 ∨ i = 2 ∨ i = 3 := by omega
    rcases this with rfl | rfl | rfl | rfl
    · exact h0
    · exact h1
    · exact h2
    · exact h3
  · have e := W4_val4 hk
    rw [← e]
    simp [val]
theorem rsame_no (a a' : Option Addr) (n c n' c' : Nat) (x y : Nat → Int) (w : World) (hn : n < 4294967296) (hn' : n' < 4294967296) (h : Num w a n c x) (h' : Num w a' n' c' y) (hv : val x n ≠ val y n') :
    Calls Tryz.prog 65 #[.slice a n c, .slice a' n' c'] w fun e w' => e = .returned (.bool false) ∧ w = w' := by
  have hc := rcmp_any a a' n c n' c' x y w hn hn' h h'
  have hs : (sgn (val x n) (val y n') == 0) = false := by
    rcases sgn_ways (val x n) (val y n') with ⟨a, e⟩ | ⟨a, e⟩ | ⟨a, e⟩
    · rw [e]; rfl
    · exact absurd a hv
    · rw [e]; rfl
  generalize sgn (val x n) (val y n') = S at *
  clear h h' hv
  go_enter Tryz.func65, Tryz.ntmps65
  go_wp2_with (go_at_call 38; refine hc.mono ?_; rintro e w1 ⟨rfl, rfl⟩)
  go_ret
  exact ⟨by rw [← hs]; rfl, rfl⟩
theorem rsame_nv {K K' A B : Nat} {v v' : Value} {w : World} (hK : K < 1000000) (hK' : K' < 1000000) (h : NV K A v w) (h' : NV K' B v' w) :
    Calls Tryz.prog 65 #[v, v'] w fun e w' => e = .returned (.bool (decide (A = B))) ∧ w = w' := by
  obtain ⟨g, k, c, z, rfl, hk, hN, hz⟩ := h
  obtain ⟨g', k', c', z', rfl, hk', hN', hz'⟩ := h'
  by_cases e : A = B
  · rw [decide_eq_true e]
    exact rsame_any _ _ k c k' c' z z' w (by omega) (by omega) hN hN' (by rw [hz, hz', e])
  · rw [decide_eq_false e]
    exact rsame_no _ _ k c k' c' z z' w (by omega) (by omega) hN hN' (by rw [hz, hz']; omega)
attribute [local irreducible] W4 Nz Nt NT NV
set_option maxHeartbeats 1000000 in
theorem rnat_v (k : Nat) (w : World) (hk : k < 2 ^ 256) :
    Calls Tryz.prog 26 #[A4 k] w fun r w' => ∃ v, r = .returned v ∧ NT 4 k v w' ∧ Below w.heap.size w w' := by
  have hn0 : Nt 4 k (.slice (some ⟨w.heap.size, 0, none⟩) 4 4) (w.alloc (.cells #[.int .u64 (W4 k 0), .int .u64 (W4 k 1), .int .u64 (W4 k 2), .int .u64 (W4 k 3)] 24)) := nt_at0 hk (by simp) (by go_simp) (by go_simp) (by go_simp) (by go_simp)
  have c49 := rtrim_nt (by decide) hn0
  have hb0 := below1 w (.cells #[.int .u64 (W4 k 0), .int .u64 (W4 k 1), .int .u64 (W4 k 2), .int .u64 (W4 k 3)] 24)
  clear hn0
  unfold A4
  go_enter Tryz.func26, Tryz.ntmps26
  go_wp2_with (go_at_call 49; refine c49.mono ?_; rintro r w1 ⟨v, rfl, hv, hb1⟩)
  go_ret
  exact ⟨v, rfl, hv, bnx hb0 hb1⟩
set_option maxHeartbeats 1000000 in
theorem rwithin_v {K K' A B : Nat} {v v' : Value} {w : World} (c : Bool) (hK : K < 1000000) (hK' : K' < 1000000) (h : NV K A v w) (h' : NV K' B v' w) :
    Calls Tryz.prog 36 #[v, v', .bool c] w fun r w' => r = .returned (.bool (wiN c A B)) ∧ w = w' := by
  have c38 := rcmp_nv hK hK' h h'
  clear h h'
  unfold wiN
  rcases sgn_ways (A : Int) (B : Int) with ⟨a, e⟩ | ⟨a, e⟩ | ⟨a, e⟩
  · rw [decide_eq_true (show A < B by omega), Bool.true_or]
    rw [e] at c38
    go_enter Tryz.func36, Tryz.ntmps36
    go_wp2_with (go_at_call 38; refine c38.mono ?_; rintro r w1 ⟨rfl, rfl⟩)
    go_ret
    exact ⟨rfl, rfl⟩
  · rw [decide_eq_false (show ¬ A < B by omega), decide_eq_true (show A = B by omega), Bool.false_or, Bool.true_and]
    rw [e] at c38
    go_enter Tryz.func36, Tryz.ntmps36
    go_wp2_with (go_at_call 38; refine c38.mono ?_; rintro r w1 ⟨rfl, rfl⟩)
    go_ret
    exact ⟨rfl, rfl⟩
  · rw [decide_eq_false (show ¬ A < B by omega), decide_eq_false (show ¬ A = B by omega), Bool.false_or, Bool.false_and]
    rw [e] at c38
    go_enter Tryz.func36, Tryz.ntmps36
    go_wp2_with (go_at_call 38; refine c38.mono ?_; rintro r w1 ⟨rfl, rfl⟩)
    go_ret
    exact ⟨rfl, rfl⟩
section
variable (v : Value) (x i0 i1 i2 i3 i5 l m i8 : Int) (nm : ByteArray) (dn : Bool) (f : Nat) (w : World) (hf : f ≤ 300)
include hf
set_option maxHeartbeats 1000000 in
theorem rwid_l (h : ¬ l < x) : Calls Tryz.prog 27 #[v, .int .i64 x, .agg #[.int .i64 i0, .string nm, .int .i64 i2, .int .i64 i3, .int .i64 ((f : Int) + 1), .int .i64 i5, .int .i64 l, .int .i64 m, .int .i64 i8, .bool dn]] w fun r w' => r = .returned (.int .u64 2) ∧ Below w.heap.size w w' := by
  have hsm := cell_set_map
  go_enter Tryz.func27, Tryz.ntmps27
  go_wp2
  go_ret
  exact ⟨rfl, bgo⟩
set_option maxHeartbeats 1000000 in
theorem rwid_g (h : l < x) (b : Bool)
    (c48 : ∀ W, Calls Tryz.prog 48 #[.int .u64 2, .int .i64 (f : Int)] W fun r w' => ∃ u, r = .returned u ∧ NV 50000 (2 ^ f) u w' ∧ Below W.heap.size W w')
    (c65 : ∀ W u, Below w.heap.size w W → NV 50000 (2 ^ f) u W → Calls Tryz.prog 65 #[v, u] W fun r w' => r = .returned (.bool b) ∧ W = w') :
    Calls Tryz.prog 27 #[v, .int .i64 x, .agg #[.int .i64 i0, .string nm, .int .i64 i2, .int .i64 i3, .int .i64 ((f : Int) + 1), .int .i64 i5, .int .i64 l, .int .i64 m, .int .i64 i8, .bool dn]] w fun r w' => r = .returned (.int .u64 (if b then 1 else 2)) ∧ Below w.heap.size w w' := by
  have hsm := cell_set_map
  cases b
  · go_enter Tryz.func27, Tryz.ntmps27
    go_wp2_with (first
      | (go_at_call 48; refine (c48 _).mono ?_; rintro r w1 ⟨u1, rfl, hu1, hb1⟩; obtain ⟨hc1, hf1⟩ := bcell hb1; have hz1_0 : w.heap.size < w1.heap.size := lt_below hb1 ltg; have hl1_0 := Nat.le_of_lt hz1_0; have hA1 := bnext (w0 := w) bgo hb1; have hs1 := hA1.size; clear hb1)
      | (go_at_call 65; refine (c65 _ _ bgo hu1).mono ?_; rintro r w2 ⟨rfl, rfl⟩))
    go_ret
    exact ⟨rfl, bgo⟩
  · go_enter Tryz.func27, Tryz.ntmps27
    go_wp2_with (first
      | (go_at_call 48; refine (c48 _).mono ?_; rintro r w1 ⟨u1, rfl, hu1, hb1⟩; obtain ⟨hc1, hf1⟩ := bcell hb1; have hz1_0 : w.heap.size < w1.heap.size := lt_below hb1 ltg; have hl1_0 := Nat.le_of_lt hz1_0; have hA1 := bnext (w0 := w) bgo hb1; have hs1 := hA1.size; clear hb1)
      | (go_at_call 65; refine (c65 _ _ bgo hu1).mono ?_; rintro r w2 ⟨rfl, rfl⟩))
    go_ret
    exact ⟨rfl, bgo⟩
end
theorem rwidth_v {n x : Int} {k K : Nat} {v : Value} {w : World} (i0 i2 i3 i5 m i8 : Int) (nm : ByteArray) (dn : Bool) (hb : binN n) (hK : K < 1000000) (h : NV K k v w) :
    Calls Tryz.prog 27 #[v, .int .i64 x, .agg #[.int .i64 i0, .string nm, .int .i64 i2, .int .i64 i3, .int .i64 ((fN n : Int) + 1), .int .i64 i5, .int .i64 (leastN n), .int .i64 m, .int .i64 i8, .bool dn]] w fun r w' => r = .returned (.int .u64 ((lwN n x k : Nat) : Int)) ∧ Below w.heap.size w w' := by
  have hf := (bin_fm hb).f240
  unfold lwN nbB
  by_cases hl : leastN n < x
  · rw [decide_eq_true hl, Bool.true_and]
    refine (rwid_g v x i0 i2 i3 i5 (leastN n) m i8 nm dn (fN n) w (by omega) hl (decide (k = 2 ^ fN n)) (fun W => rpow_nv (fN n) W (by omega)) (fun W u hW hu => rsame_nv hK (by decide) (h.next hW) hu)).mono fun r w' ⟨h1, h2⟩ => ⟨?_, h2⟩
    rw [h1]; congr 2; split <;> rfl
  · rw [decide_eq_false hl, Bool.false_and]
    exact rwid_l v x i0 i2 i3 i5 (leastN n) m i8 nm dn (fN n) w (by omega) hl
section
variable {a : Act} {w : World} {K : Act → World → Prop} {Q : Exit → Act → World → Prop} {d p q : Nat} {ty : TypeId} {pos : String} {after : Array Edge} {gd : Option (Nat × Bool)}
theorem oq_V1_0 {g : Nat} (h1 : slot a p = .pointer (some ⟨g, 0, none⟩)) (hK : K (a.put (some d) (.pointer (some ⟨g, 4, none⟩))) w) : Oper.wp Tryz.prog { dst := some d, op := Op.fieldAddr 35 (Operand.tmp p) 4, type := ty, pos := pos, after := after, guard := gd } a w K Q := by
  unfold slot at h1
  simp [go_sem, h1]
  exact hK
theorem oq_V1_1 {p0 : Nat} {u0 : Value} {ts : Array TypeId} (h0 : slot a p0 = u0) (hc : Calls Tryz.prog 26 #[u0] w fun e w' => ∃ v, e = .returned v ∧ K (a.put (some d) v) w') : Oper.wp Tryz.prog { dst := some d, op := Op.call { callee := Callee.value (Operand.func 26), args := #[Operand.tmp p0], argTypes := ts }, type := ty, pos := pos, after := after, guard := gd } a w K Q := by
  unfold slot at h0
  simp [go_sem, h0]
  refine hc.mono ?_
  rintro e w' ⟨v, rfl, hK⟩
  exact hK
theorem oq_V1_2 {v : Value} (h1 : slot a p = v) (hK : K (a.put (some d) v) w) : Oper.wp Tryz.prog { dst := some d, op := Op.move (Operand.tmp p), type := ty, pos := pos, after := after, guard := gd } a w K Q := by
  unfold slot at h1
  simp [go_sem, h1]
  exact hK
theorem oq_V1_3 {g : Nat} (h1 : slot a p = .pointer (some ⟨g, 0, none⟩)) (hK : K (a.put (some d) (.pointer (some ⟨g, 3, none⟩))) w) : Oper.wp Tryz.prog { dst := some d, op := Op.fieldAddr 35 (Operand.tmp p) 3, type := ty, pos := pos, after := after, guard := gd } a w K Q := by
  unfold slot at h1
  simp [go_sem, h1]
  exact hK
theorem oq_V1_4 {g i : Nat} {v : Value} (h1 : slot a p = .pointer (some ⟨g, i, none⟩)) (h2 : w.cell? ⟨g, i, none⟩ = some v) (hK : K (a.put (some d) v) w) : Oper.wp Tryz.prog { dst := some d, op := Op.load 3 (Operand.tmp p), type := ty, pos := pos, after := after, guard := gd } a w K Q := by
  unfold slot at h1
  simp [go_sem, h1, h2]
  exact hK
theorem oq_V1_5 {p0 : Nat} {u0 : Value} {p1 : Nat} {u1 : Value} {p2 : Nat} {u2 : Value} {p3 : Nat} {u3 : Value} {ts : Array TypeId} (h0 : slot a p0 = u0) (h1 : slot a p1 = u1) (h2 : slot a p2 = u2) (h3 : slot a p3 = u3) (hc : Calls Tryz.prog 30 #[u0, u1, u2, u3] w fun e w' => ∃ v, e = .returned v ∧ K (a.put (some d) v) w') : Oper.wp Tryz.prog { dst := some d, op := Op.call { callee := Callee.value (Operand.func 30), args := #[Operand.tmp p0, Operand.tmp p1, Operand.tmp p2, Operand.tmp p3], argTypes := ts }, type := ty, pos := pos, after := after, guard := gd } a w K Q := by
  unfold slot at h0 h1 h2 h3
  simp [go_sem, h0, h1, h2, h3]
  refine hc.mono ?_
  rintro e w' ⟨v, rfl, hK⟩
  exact hK
end
noncomputable def opsV1 : List Oper := match Tryz.f28.body with
  | some (.seq _ (.seq (.region _ o _) _)) => o.toList
  | _ => []
def slotsV1 : List Nat := [6, 7, 8, 9, 10, 11, 12, 13, 14, 15]
section
variable {a : Act} {w : World} {K : Act → World → Prop} {Q : Exit → Act → World → Prop} {d p q p2 p3 p4 : Nat} {ty : TypeId} {pos : String} {after : Array Edge} {gd : Option (Nat × Bool)}
theorem oq_l24 {g k : Nat} (h1 : slot a p = .pointer (some ⟨g, 4, none⟩)) (c0 : w.cell? ⟨g, 4, none⟩ = some (.int .u64 (W4 k 0))) (c1 : w.cell? ⟨g, 5, none⟩ = some (.int .u64 (W4 k 1))) (c2 : w.cell? ⟨g, 6, none⟩ = some (.int .u64 (W4 k 2))) (c3 : w.cell? ⟨g, 7, none⟩ = some (.int .u64 (W4 k 3))) (hK : K (a.put (some d) (A4 k)) w) :
    Oper.wp Tryz.prog { dst := some d, op := Op.load 24 (Operand.tmp p), type := ty, pos := pos, after := after, guard := gd } a w K Q := by
  unfold slot at h1
  simp [go_sem, h1, c0, c1, c2, c3]
  exact hK
theorem oq_bs1 (hK : K (a.put (some d) (.slice (some ⟨w.heap.size, 0, none⟩) 1 1)) (w.alloc (.cells #[.int .u64 1] 22))) :
    Oper.wp Tryz.prog { dst := some d, op := Op.buildSlice 39 1 #[(0, Operand.const (Value.int IntKind.u64 1))], type := ty, pos := pos, after := after, guard := gd } a w K Q := by
  simp [go_sem]
  exact hK
theorem oq_ex0 {u v : Value} (h1 : slot a p = .tuple #[u, v]) (hK : K (a.put (some d) u) w) : Oper.wp Tryz.prog { dst := some d, op := Op.extract (Operand.tmp p) 0, type := ty, pos := pos, after := after, guard := gd } a w K Q := by
  unfold slot at h1
  simp [go_sem, h1]
  exact hK
theorem oq_ex1 {u v : Value} (h1 : slot a p = .tuple #[u, v]) (hK : K (a.put (some d) v) w) : Oper.wp Tryz.prog { dst := some d, op := Op.extract (Operand.tmp p) 1, type := ty, pos := pos, after := after, guard := gd } a w K Q := by
  unfold slot at h1
  simp [go_sem, h1]
  exact hK
end
set_option maxHeartbeats 8000000 in
theorem regV1 {h4 k A B : Nat} {x : Int} {a0 : Act} {ws : World} {Q : Exit → Act → World → Prop} (hs : a0.tmps.size = 16) (g2 : slot a0 2 = .pointer (some ⟨h4, 0, none⟩)) (g1 : slot a0 1 = .int .u64 2) (hlt : h4 < ws.heap.size) (k3 : ws.cell? ⟨h4, 3, none⟩ = some (.int .i64 x)) (k4 : ws.cell? ⟨h4, 4, none⟩ = some (.int .u64 (W4 k 0))) (k5 : ws.cell? ⟨h4, 5, none⟩ = some (.int .u64 (W4 k 1))) (k6 : ws.cell? ⟨h4, 6, none⟩ = some (.int .u64 (W4 k 2))) (k7 : ws.cell? ⟨h4, 7, none⟩ = some (.int .u64 (W4 k 3)))
    (c26 : ∀ W, Calls Tryz.prog 26 #[A4 k] W fun e w' => ∃ v, e = .returned v ∧ NT 4 k v w' ∧ Below W.heap.size W w')
    (c30 : ∀ W v v', NT 4 k v W → NT 1 1 v' W → Calls Tryz.prog 30 #[v, v', .int .u64 2, .int .i64 x] W fun e w' => ∃ u, e = .returned u ∧ (∃ a b, u = .tuple #[a, b] ∧ NT 900 A a w' ∧ NT 900 B b w') ∧ Below W.heap.size W w')
    (hQ : ∀ (a : Act) (w : World) (x0 x1 : Value), slot a 4 = x0 → slot a 5 = x1 → NT 900 A x0 w → NT 900 B x1 w → a.tmps.size = 16 → a.defers = a0.defers → Below ws.heap.size ws w → Q .normal a w) :
    (Code.region 1 opsV1.toArray true).wp Tryz.prog Q a0 ws := by
  refine wp_region_mem 10 16 slotsV1 [isW (.pointer (some ⟨h4, 4, none⟩)), isW (A4 k), NT 4 k, NT 1 1, isW (.int .u64 2), isW (.pointer (some ⟨h4, 3, none⟩)), isW (.int .i64 x), (fun v w => ∃ a b, v = .tuple #[a, b] ∧ NT 900 A a w ∧ NT 900 B b w), NT 900 A, NT 900 B] (fun w w' => Below w.heap.size w w') (fun _ _ w => Below ws.heap.size ws w) (by kernel_rfl) (by kernel_rfl) (by kernel_rfl) hs ?_ (Below.refl _ _).drew ?_ ?_
  · intro p hp
    simp only [List.mem_cons, List.not_mem_nil, or_false] at hp
    rcases hp with rfl | rfl | rfl | rfl | rfl | rfl | rfl | rfl | rfl | rfl
    all_goals first | exact fun _ _ _ h _ => h | exact fun _ _ _ h hb => h.next hb | exact fun _ _ _ ⟨a, b, e, z0, z1⟩ hb => ⟨a, b, e, z0.next hb, z1.next hb⟩
  · intro L i o a w hi ho hL hcl he hM hF hv
    have f2 : slot a 2 = .pointer (some ⟨h4, 0, none⟩) := (hF 2 (by decide)).trans g2
    have f1 : slot a 1 = .int .u64 2 := (hF 1 (by decide)).trans g1
    have hor : i = 0 ∨ i = 1 ∨ i = 2 ∨ i = 3 ∨ i = 4 ∨ i = 5 ∨ i = 6 ∨ i = 7 ∨ i = 8 ∨ i = 9 := by omega
    rcases hor with rfl | rfl | rfl | rfl | rfl | rfl | rfl | rfl | rfl | rfl
    · obtain rfl := Option.some.inj (show opsV1[0]? = some o from ho)
      exact oq_V1_0 (f2 : slot a 2 = .pointer (some ⟨h4, 0, none⟩)) ⟨_, rfl, rfl, Below.refl _ _, hM⟩
    · obtain rfl := Option.some.inj (show opsV1[1]? = some o from ho)
      exact oq_l24 (hv 0 (by decide) rfl (he ⟨0, .data⟩ (by simp) rfl) : slot a 6 = .pointer (some ⟨h4, 4, none⟩)) ((hM.cell (p := ⟨h4, 4, none⟩) hlt).trans k4) ((hM.cell (p := ⟨h4, 5, none⟩) hlt).trans k5) ((hM.cell (p := ⟨h4, 6, none⟩) hlt).trans k6) ((hM.cell (p := ⟨h4, 7, none⟩) hlt).trans k7) ⟨_, rfl, rfl, Below.refl _ _, hM⟩
    · obtain rfl := Option.some.inj (show opsV1[2]? = some o from ho)
      refine oq_V1_1 (hv 1 (by decide) rfl (he ⟨1, .data⟩ (by simp) rfl) : slot a 7 = A4 k) ((c26 w).mono ?_)
      rintro e w' ⟨v, rfl, hSv, hb⟩
      exact ⟨v, rfl, _, rfl, hSv, hb, bnx hM hb⟩
    · obtain rfl := Option.some.inj (show opsV1[3]? = some o from ho)
      have hb := below1 w (.cells #[.int .u64 1] 22)
      exact oq_bs1 ⟨_, rfl, nt_un1 rfl rfl (by decide) (by decide), hb, bnx hM hb⟩
    · obtain rfl := Option.some.inj (show opsV1[4]? = some o from ho)
      exact oq_V1_2 (f1 : slot a 1 = .int .u64 2) ⟨_, rfl, rfl, Below.refl _ _, hM⟩
    · obtain rfl := Option.some.inj (show opsV1[5]? = some o from ho)
      exact oq_V1_3 (f2 : slot a 2 = .pointer (some ⟨h4, 0, none⟩)) ⟨_, rfl, rfl, Below.refl _ _, hM⟩
    · obtain rfl := Option.some.inj (show opsV1[6]? = some o from ho)
      exact oq_V1_4 (hv 5 (by decide) rfl (he ⟨5, .data⟩ (by simp) rfl) : slot a 11 = .pointer (some ⟨h4, 3, none⟩)) ((hM.cell (p := ⟨h4, 3, none⟩) hlt).trans k3) ⟨_, rfl, rfl, Below.refl _ _, hM⟩
    · obtain rfl := Option.some.inj (show opsV1[7]? = some o from ho)
      refine oq_V1_5 rfl rfl (hv 4 (by decide) rfl (he ⟨4, .data⟩ (by simp) rfl) : slot a 10 = .int .u64 2) (hv 6 (by decide) rfl (he ⟨6, .data⟩ (by simp) rfl) : slot a 12 = .int .i64 x) ((c30 w _ _ (hv 2 (by decide) rfl (he ⟨2, .data⟩ (by simp) rfl)) (hv 3 (by decide) rfl (he ⟨3, .data⟩ (by simp) rfl))).mono ?_)
      rintro e w' ⟨v, rfl, hSv, hb⟩
      exact ⟨v, rfl, _, rfl, hSv, hb, bnx hM hb⟩
    · obtain rfl := Option.some.inj (show opsV1[8]? = some o from ho)
      obtain ⟨x0, x1, e13, z0, z1⟩ : ∃ x0 x1, slot a 13 = .tuple #[x0, x1] ∧ NT 900 A x0 w ∧ NT 900 B x1 w := (hv 7 (by decide) rfl (he ⟨7, .data⟩ (by simp) rfl))
      exact oq_ex0 e13 ⟨_, rfl, z0, Below.refl _ _, hM⟩
    · obtain rfl := Option.some.inj (show opsV1[9]? = some o from ho)
      obtain ⟨x0, x1, e13, z0, z1⟩ : ∃ x0 x1, slot a 13 = .tuple #[x0, x1] ∧ NT 900 A x0 w ∧ NT 900 B x1 w := (hv 7 (by decide) rfl (he ⟨7, .data⟩ (by simp) rfl))
      exact oq_ex1 e13 ⟨_, rfl, z1, Below.refl _ _, hM⟩
  · intro L a w hL hM hsz hdf hF hv
    have z0 : NT 900 A (slot a 14) w := hv 8 (by decide) rfl
    have z1 : NT 900 B (slot a 15) w := hv 9 (by decide) rfl
    refine BigFrame.wpList_want rfl fun K hK => oq_a_as rfl (hK _ _ ?_)
    clear K hK
    have e15 : slot (a.put (some 4) (slot a 14)) 15 = slot a 15 := by rw [slot_put_ne (by decide)]
    refine BigFrame.wpList_want rfl fun K hK => oq_a_as e15 (hK _ _ ?_)
    clear K hK
    refine hQ _ _ _ _ ?_ (slot_put (by simp [Act.put]; omega)) z0 z1 (by simp [Act.put, hsz]) hdf hM
    rw [slot_put_ne (by decide)]
    exact slot_put (by omega)
end Go.Proofs.YtoobncgmcnmgjaaGreatDoor
