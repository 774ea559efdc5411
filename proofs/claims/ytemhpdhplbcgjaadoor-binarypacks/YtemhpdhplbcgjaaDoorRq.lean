/-
  What the document's own Pack does: a contract.
-/
import Derived.Test.YtemhpdhplbcgjaaDoorRp1
import Derived.Test.YtemhpdhplbcgjaaDoorRp3
set_option linter.unusedVariables false
set_option linter.unusedSectionVars false
set_option linter.unusedSimpArgs false
set_option maxRecDepth 20000
namespace Go.Proofs.YtemhpdhplbcgjaaDoor
open Go.RowKit

set_option maxHeartbeats 1000000 in
theorem rpack_bad (n : Int) (d : Dat) (w : World) (h : ¬ binN n) :
    Calls Tryd.prog 13 #[.int .i64 n, d.v] w fun x w' => x = .returned (.tuple #[Z4, .int .i64 1]) ∧ Below w.heap.size w w' := by
  have c35 := fun w => rbinary_any n w
  rw [decide_eq_false h] at c35
  obtain ⟨c, s, g, x, k⟩ := d
  unfold Dat.v
  dsimp only
  have hsm := cell_set_map
  clear h
  go_enter Tryd.func13, Tryd.ntmps13
  go_wp2_with (go_at_call 35; refine (c35 _).mono ?_; rintro r w0 ⟨rfl, rfl⟩)
  exact bodyPost_ret (v := .tuple #[Z4, .int .i64 1]) (by simp only [results, Tryd.results13]; go_simp) rfl ⟨rfl, by (repeat (first | with_reducible assumption | with_reducible exact Below.refl _ _ | with_reducible refine Below.setCell ?_ (by first | omega | (dsimp only; omega) | (simp <;> omega)) _ | with_reducible refine Below.alloc ?_ (by first | omega | (simp <;> omega)) _ | with_reducible refine Below.drew ?_))⟩
set_option maxHeartbeats 1000000 in
theorem rpack_none (n : Int) (nm : ByteArray) (wd : Int) (f e : Nat) (l m : Int) (c x : Int) (s g : Bool) (k : Nat) (w : World)
    (c35 : ∀ w, Calls Tryd.prog 35 #[.int .i64 n] w fun x w' => x = .returned (.bool true) ∧ w = w')
    (c25 : ∀ w, Calls Tryd.prog 25 #[.int .i64 n] w fun x w' => x = .returned (.tuple #[IV n nm wd f e l m, .int .i64 0]) ∧ Below w.heap.size w w')
    (c36 : ∀ w, Calls Tryd.prog 36 #[IV n nm wd f e l m, DV c s g x k] w fun r w' => r = .returned (.bool false) ∧ Below w.heap.size w w') :
    Calls Tryd.prog 13 #[.int .i64 n, DV c s g x k] w fun x w' => x = .returned (.tuple #[Z4, .int .i64 3]) ∧ Below w.heap.size w w' := by
  have hsm := cell_set_map
  go_enter Tryd.func13, Tryd.ntmps13
  go_wp2_with (first
    | (go_at_call 35; refine (c35 _).mono ?_; rintro r w0 ⟨rfl, rfl⟩)
    | (go_at_call 25; refine (c25 _).mono ?_; rintro x w1 ⟨rfl, hb1⟩; obtain ⟨hc1, hf1⟩ := bcell hb1; have hz1_0 : w.heap.size < w1.heap.size := lt_below hb1 (by first | with_reducible assumption | (simp; done) | (simp; omega)); have hl1_0 := Nat.le_of_lt hz1_0; have hz1_1 : w.heap.size + 1 < w1.heap.size := lt_below hb1 (by first | with_reducible assumption | (simp; done) | (simp; omega)); have hl1_1 := Nat.le_of_lt hz1_1; have hA1 := bnext (w0 := w) (by (repeat (first | with_reducible assumption | with_reducible exact Below.refl _ _ | with_reducible refine Below.setCell ?_ (by first | omega | (dsimp only; omega) | (simp <;> omega)) _ | with_reducible refine Below.alloc ?_ (by first | omega | (simp <;> omega)) _ | with_reducible refine Below.drew ?_))) hb1; have hs1 := hA1.size; clear hb1)
    | (go_at_call 36; refine (c36 _).mono ?_; rintro x w2 ⟨rfl, hb2⟩; obtain ⟨hc2, hf2⟩ := bcell hb2; have hz2_0 : w.heap.size < w2.heap.size := lt_below hb2 (by first | with_reducible assumption | (simp; done) | (simp; omega)); have hl2_0 := Nat.le_of_lt hz2_0; have hz2_1 : w.heap.size + 1 < w2.heap.size := lt_below hb2 (by first | with_reducible assumption | (simp; done) | (simp; omega)); have hl2_1 := Nat.le_of_lt hz2_1; have hz2_2 : w1.heap.size < w2.heap.size := lt_below hb2 (by first | with_reducible assumption | (simp; done) | (simp; omega)); have hl2_2 := Nat.le_of_lt hz2_2; have hA2 := bnext (w0 := w) (by (repeat (first | with_reducible assumption | with_reducible exact Below.refl _ _ | with_reducible refine Below.setCell ?_ (by first | omega | (dsimp only; omega) | (simp <;> omega)) _ | with_reducible refine Below.alloc ?_ (by first | omega | (simp <;> omega)) _ | with_reducible refine Below.drew ?_))) hb2; have hs2 := hA2.size; clear hb2))
  exact bodyPost_ret (v := .tuple #[Z4, .int .i64 3]) (by simp only [results, Tryd.results13]; go_simp) rfl ⟨rfl, by (repeat (first | with_reducible assumption | with_reducible exact Below.refl _ _ | with_reducible refine Below.setCell ?_ (by first | omega | (dsimp only; omega) | (simp <;> omega)) _ | with_reducible refine Below.alloc ?_ (by first | omega | (simp <;> omega)) _ | with_reducible refine Below.drew ?_))⟩
theorem rof_bin {n : Int} (hb : binN n) (w : World) : Calls Tryd.prog 25 #[.int .i64 n] w fun x w' => x = .returned (.tuple #[IV n (nameN n) (widthN n) (fN n) (eN n) (leastN n) (mostN n), .int .i64 0]) ∧ Below w.heap.size w w' := by
  obtain ⟨hok, hb2, hpr, hex, hwd, hpy⟩ := bin_fields hb
  obtain ⟨hnum, hden⟩ := bin_more hb
  have c25 := rofv_any n w
  rw [show infoE n = 0 from if_pos hok, hnum, hb2, hpr, hex, hden, hpy] at c25
  exact c25
theorem rpack_any (n : Int) (d : Dat) (w : World) (hk : d.k < 2 ^ 256) :
    Calls Tryd.prog 13 #[.int .i64 n, d.v] w fun x w' => x = .returned (.tuple #[A4 (pkV n d), .int .i64 (pkE n d)]) ∧ Below w.heap.size w w' := by
  by_cases hb : binN n
  · have hF := bin_fm hb
    have c25 := fun w => rof_bin hb w
    have c35 : ∀ w, Calls Tryd.prog 35 #[.int .i64 n] w fun x w' => x = .returned (.bool true) ∧ w = w' := fun w => by
      have := rbinary_any n w
      rw [decide_eq_true hb] at this
      exact this.mono fun _ _ ⟨h1, h2⟩ => ⟨h1, h2.symm⟩
    have c36 := fun w => ris_any n (nameN n) (widthN n) (fN n) (eN n) (leastN n) (mostN n) d w hF hk
    by_cases hi : isD (fN n) (leastN n) (mostN n) d
    · rw [decide_eq_true hi] at c36
      have e1 : pkE n d = 0 := by unfold pkE; rw [if_pos hb, if_pos hi]
      have e2 : pkV n d = pk (fN n) (eN n) (leastN n) d := by unfold pkV; rw [if_pos ⟨hb, hi⟩]
      have h256 := pkV_256 n d
      rw [e2] at h256
      rw [e1, e2]
      clear e1 e2
      have hf : 2 ≤ fN n ∧ fN n ≤ 240 := ⟨hF.f2, hF.f240⟩
      have he := hF.e15
      have hfe := hF.fe
      have hpc : ((2 : Int) ^ eN n) = ((2 ^ eN n : Nat) : Int) := by simp
      have hp := pow_e hF.e2 hF.e15
      rw [hpc] at hp
      have hAll : (2 : Int) ^ eN n - 1 = ((2 ^ eN n - 1 : Nat) : Int) := by rw [hpc]; omega
      have hl1 := hF.l1
      have hl0 := hF.l0
      have hm := hF.m
      rw [hpc] at hm
      generalize fN n = f at *
      generalize eN n = e at *
      generalize leastN n = l at *
      generalize mostN n = m at *
      obtain ⟨c, s, g, x, k⟩ := d
      unfold Dat.v at *
      dsimp only at hk c36 ⊢
      have hBs : (if s then 2 ^ (f + e) else 0) < 2 ^ 256 := by
        cases s
        · rw [if_neg (by decide)]; decide
        · exact Nat.pow_lt_pow_right (by decide) (by omega)
      have cS : s = true → ∀ W v, NV 1 1 v W → Calls Tryd.prog 37 #[Z4, v, .int .i64 ((f : Int) + e)] W fun r w' => r = .returned (A4 (if s then 2 ^ (f + e) else 0)) ∧ Below W.heap.size W w' := fun hs W v hv => by
        have := lay_any 0 1 (f + e) 1 v W (by decide) (by decide) (by omega) hv
        rw [Z4_eq, Int.natCast_add, Nat.zero_add, Nat.one_mul] at this
        rw [hs, if_pos rfl]; exact this
      have hB0 : s = false → ∀ i, W4 (if s then 2 ^ (f + e) else 0) i = 0 := fun hs i => by rw [hs, if_neg (by decide), W4_zero]
      have hNv : val (lowW (W4 k) 4) 4 = (k : Int) := by
        rw [val_congr (x := lowW (W4 k) 4) (y := W4 k) 4 (fun i hi => lowW_lt hi), W4_val4 hk]
      unfold pk at h256 ⊢
      dsimp only at h256 ⊢
      rcases hi with ⟨hc, hg, hk1, hx1, hx2, hx3⟩ | ⟨hc, hg, hx, hk0⟩ | ⟨hc, hx, hk1, hg⟩
      · dsimp only at hc hg hk1 hx1 hx2 hx3
        subst hc
        rw [if_pos rfl] at h256 ⊢
        generalize (if s then 2 ^ (f + e) else 0) = Bs at *
        have hL := len4_le (k := f) hk
        have hpf : 2 ^ (f + 1) = 2 ^ f + 2 ^ f := by rw [Nat.pow_succ]; omega
        have hFr : k % 2 ^ f < 2 ^ f := Nat.mod_lt _ (Nat.two_pow_pos _)
        have hFk : k % 2 ^ f ≤ k := Nat.mod_le _ _
        have c26 : ∀ W, Calls Tryd.prog 26 #[A4 k, .int .i64 0, .int .i64 f] W fun e w' => ∃ r, e = .returned r ∧ NV 19 (k % 2 ^ f) r w' ∧ Below W.heap.size W w' := fun W => by
          have := field_any k 0 f W hk (by decide) (by omega)
          rw [show ((0 : Nat) : Int) = 0 from rfl, Nat.pow_zero, Nat.div_one] at this
          exact this.mono fun _ _ ⟨r, h1, h2, h3⟩ => ⟨r, h1, h2.nv, h3⟩
        have cF : ∀ W v, NV 19 (k % 2 ^ f) v W → Calls Tryd.prog 37 #[A4 Bs, v, .int .i64 0] W fun r w' => r = .returned (A4 (Bs + k % 2 ^ f)) ∧ Below W.heap.size W w' := fun W v hv => by
          have := lay_any Bs (k % 2 ^ f) 0 19 v W hBs (by decide) (by decide) hv
          rw [show ((0 : Nat) : Int) = 0 from rfl, Nat.pow_zero, Nat.mul_one] at this
          exact this
        have c38 : ∀ W, Num W (some ⟨w.heap.size, 4, none⟩) 4 4 (lowW (W4 k) 4) → Calls Tryd.prog 38 #[.slice (some ⟨w.heap.size, 4, none⟩) 4 4] W fun e w' => e = .returned (.int .i64 (lenL (W4 k) 4)) ∧ W = w' := fun W hN => by
          have := rlen_num (some ⟨w.heap.size, 4, none⟩) 4 4 (lowW (W4 k) 4) W (by decide) hN
          rw [lenL_low] at this
          exact this
        have hmul : ((x - l).toNat + 1) * 2 ^ f = (x - l).toNat * 2 ^ f + 2 ^ f := by rw [Nat.add_mul, Nat.one_mul]
        refine rpack1 n _ _ f e (2 ^ e - 1) _ Bs l m x s g k w hf he hAll c35 c25 cS hB0 c36 (Bs + k % 2 ^ f) (k % 2 ^ f) ((x - l).toNat + 1) (lenL (W4 k) 4) (by omega) (by omega) (by omega) c38 ?_ c26 cF ?_
        · intro hlt W hN
          have hkf : k < 2 ^ f := hL.1 (by omega)
          obtain rfl : x = l := by omega
          have := lay_off Bs k 0 4 w.heap.size 4 4 _ W hBs (by decide) (by decide) hN hNv
          rw [show ((0 : Nat) : Int) = 0 from rfl, Nat.pow_zero, Nat.mul_one] at this
          rw [Int.sub_self, Int.toNat_zero, Nat.zero_mul, Nat.zero_add, Nat.add_comm k]
          exact this
        · intro hlt W v hv
          have hkf : 2 ^ f ≤ k := by
            rcases Nat.lt_or_ge k (2 ^ f) with hh | hh
            · have := hL.2 hh; omega
            · exact hh
          have hke : k % 2 ^ f + 2 ^ f = k := by
            rw [Nat.mod_eq_sub_mod hkf, Nat.mod_eq_of_lt (by omega)]; omega
          have := lay_any (Bs + k % 2 ^ f) ((x - l).toNat + 1) f 1 v W (by omega) (by decide) (by omega) hv
          rw [show Bs + k % 2 ^ f + ((x - l).toNat + 1) * 2 ^ f = (x - l).toNat * 2 ^ f + k + Bs by omega] at this
          exact this
      · dsimp only at hc hg hx hk0
        subst hc
        rw [if_neg (by decide), if_pos rfl, Nat.add_zero] at h256 ⊢
        generalize (if s then 2 ^ (f + e) else 0) = Bs at *
        refine rpack2 n _ _ f e (2 ^ e - 1) _ Bs l m x s g k w hf he hAll c35 c25 cS hB0 c36 fun W v hv => ?_
        have := lay_any Bs (2 ^ e - 1) f 1 v W hBs (by decide) (by omega) hv
        rw [Nat.add_comm Bs] at this
        exact this
      · dsimp only at hc hx hk1 hg
        subst hc
        rw [if_neg (by decide), if_neg (by decide)] at h256 ⊢
        generalize (if s then 2 ^ (f + e) else 0) = Bs at *
        generalize hA : (2 ^ e - 1) * 2 ^ f = A at *
        have hlt : A + k + Bs < 2 ^ 256 := by cases g <;> simp at h256 <;> omega
        refine rpack3 n _ _ f e (2 ^ e - 1) _ Bs l m x s g k w hf he hAll c35 c25 cS hB0 c36 (Bs + A) (Bs + A + k) ?_ ?_ ?_ ?_
        · intro W v hv
          have := lay_any Bs (2 ^ e - 1) f 1 v W hBs (by decide) (by omega) hv
          rw [hA] at this
          exact this
        · intro W hN
          have := lay_off (Bs + A) k 0 4 w.heap.size 4 4 _ W (by omega) (by decide) (by decide) hN hNv
          rw [show ((0 : Nat) : Int) = 0 from rfl, Nat.pow_zero, Nat.mul_one] at this
          exact this
        · intro hg W v hv
          have := lay_any (Bs + A + k) 1 (f - 1) 1 v W (by omega) (by decide) (by omega) hv
          rw [show ((f - 1 : Nat) : Int) = (f : Int) - 1 by omega, Nat.one_mul] at this
          subst hg
          rw [if_neg (by decide), show A + (k + 2 ^ (f - 1)) + Bs = Bs + A + k + 2 ^ (f - 1) by omega]
          exact this
        · intro hg
          subst hg
          rw [if_pos rfl]; omega
    · rw [decide_eq_false hi] at c36
      have e1 : pkE n d = 3 := by unfold pkE; rw [if_pos hb, if_neg hi]
      have e2 : pkV n d = 0 := by unfold pkV; exact if_neg fun h => hi h.2
      rw [e1, e2, Z4_eq]
      exact rpack_none n _ _ _ _ _ _ _ _ _ _ _ w c35 c25 c36
  · have e1 : pkV n d = 0 := if_neg fun h => hb h.1
    have e2 : pkE n d = 1 := if_neg hb
    rw [e1, e2, Z4_eq]
    exact rpack_bad n d w hb
end Go.Proofs.YtemhpdhplbcgjaaDoor
