/-
  Texts that the proof leans on, joined: Tf.
-/
import Derived.Test.YthcndcanahhbcaaDoorJ16
import Derived.Test.YthcndcanahhbcaaDoorJ13
/-
  What the law RoundRises does: it returns true.
-/
set_option linter.unusedVariables false
set_option linter.unusedSectionVars false
set_option linter.unusedSimpArgs false
set_option maxRecDepth 20000
namespace Go.Proofs.YthcndcanahhbcaaDoor
open Go.RowKit

theorem four_n6 {W : World} {g o V : Nat} (h : Four W g o V) (hg : g < W.heap.size) : Num W (some ⟨g, o, none⟩) 4 4 (lowW (W4 V) 4) :=
  ⟨Nat.le_refl _, by unfold maxLen; omega, lowW_words (W4_words V) 4, fun i hi => lowW_ge hi, Or.inr ⟨g, o, rfl, hg, fun i hi => by rw [h.cell i hi, lowW_lt hi]⟩⟩
theorem four_v6 {V : Nat} (hV : V < 2 ^ 256) : val (lowW (W4 V) 4) 4 = (V : Int) := by
  rw [val_congr (x := lowW (W4 V) 4) (y := W4 V) 4 (fun i hi => lowW_lt hi), W4_val4 hV]
theorem rcmp4 {W : World} {g1 o1 g2 o2 V1 V2 : Nat} (h1 : Four W g1 o1 V1) (h2 : Four W g2 o2 V2) (hg1 : g1 < W.heap.size) (hg2 : g2 < W.heap.size) (hV1 : V1 < 2 ^ 256) (hV2 : V2 < 2 ^ 256) :
    Calls Tryd.prog 21 #[.slice (some ⟨g1, o1, none⟩) 4 4, .slice (some ⟨g2, o2, none⟩) 4 4] W fun e w' => e = .returned (.int .i64 (sgn (V1 : Int) V2)) ∧ W = w' := by
  have := rcmp_any (some ⟨g1, o1, none⟩) (some ⟨g2, o2, none⟩) 4 4 4 4 _ _ W (by decide) (by decide) (four_n6 h1 hg1) (four_n6 h2 hg2)
  rw [four_v6 hV1, four_v6 hV2] at this
  exact this
theorem nt_mk {a : Option Addr} {k c K V : Nat} {z : Nat → Int} {w : World} (h : Num w a k c z) (hk : k ≤ K) (hv : val z k = (V : Int)) : Nt K V (.slice a k c) w := ⟨a, k, c, z, rfl, hk, h, hv⟩
theorem bl_add {a b k : Nat} (h1 : bl a ≤ k) (h2 : bl b ≤ k) : bl (a + b) ≤ k + 1 := by
  have e1 := bl_le.1 h1
  have e2 := bl_le.1 h2
  refine bl_le.2 ?_
  rw [Nat.pow_succ]; omega
attribute [local irreducible] W4 Nt
section
variable (n d x : Int) (a1 a2 a3 : Option Addr) (k1 c1 k2 c2 k3 c3 : Nat) (w : World) (hT : Tab w) (hc1 : (c1 : Int) ≤ 9223372036854775807) (hc2 : (c2 : Int) ≤ 9223372036854775807) (hc3 : (c3 : Int) ≤ 9223372036854775807) (hk1 : k1 ≤ c1) (hk2 : k2 ≤ c2) (hk3 : k3 ≤ c3)
include hT hc1 hc2 hc3 hk1 hk2 hk3
set_option maxHeartbeats 2000000 in
theorem rises_long (h : 100 < k1 ∨ 100 < k2 ∨ 100 < k3) :
    Calls Tryd.prog 8 #[.int .i64 n, .int .i64 d, .slice a1 k1 c1, .slice a2 k2 c2, .slice a3 k3 c3, .int .i64 x] w fun r w' => r = .returned (.bool true) ∧ Below w.heap.size w w' := by
  have c9 := awake6
  have hB : Below w.heap.size w w := Below.refl _ _
  by_cases h1 : 100 < k1
  · have i1 : (100 : Int) < k1 := by omega
    go_enter Tryd.func8, Tryd.ntmps8
    go_wp2_with (first | (go_at_call 9; refine (c9 _ (hT.go hB)).mono ?_; rintro r w1 ⟨rfl, hb1⟩; replace hB := bnext hB hb1; clear hb1))
    go_ret
    exact ⟨rfl, hB⟩
  · have i1 : (k1 : Int) ≤ 100 := by omega
    by_cases h2 : 100 < k2
    · have i2 : (100 : Int) < k2 := by omega
      go_enter Tryd.func8, Tryd.ntmps8
      go_wp2_with (first | (go_at_call 9; refine (c9 _ (hT.go hB)).mono ?_; rintro r w1 ⟨rfl, hb1⟩; replace hB := bnext hB hb1; clear hb1))
      go_ret
      exact ⟨rfl, hB⟩
    · have i2 : (k2 : Int) ≤ 100 := by omega
      have i3 : (100 : Int) < k3 := by omega
      go_enter Tryd.func8, Tryd.ntmps8
      go_wp2_with (first | (go_at_call 9; refine (c9 _ (hT.go hB)).mono ?_; rintro r w1 ⟨rfl, hb1⟩; replace hB := bnext hB hb1; clear hb1))
      go_ret
      exact ⟨rfl, hB⟩
variable (i1 : (k1 : Int) ≤ 100) (i2 : (k2 : Int) ≤ 100) (i3 : (k3 : Int) ≤ 100) (V V' S : Nat) (F F' E E' : Int)
  (c11 : ∀ W, Below w.heap.size w W → Calls Tryd.prog 11 #[.int .i64 n, .int .i64 d, .bool false, .slice a1 k1 c1, .slice a3 k3 c3, .int .i64 x] W fun r w' => r = .returned (.tuple #[A4 V, .int .i64 F, .int .i64 E]) ∧ Below W.heap.size W w')
  (c24 : ∀ W, Below w.heap.size w W → Calls Tryd.prog 24 #[.slice a1 k1 c1, .slice a2 k2 c2] W fun r w' => ∃ v, r = .returned v ∧ Nt 2001 S v w' ∧ Below W.heap.size W w')
  (c11b : ∀ W v, Below w.heap.size w W → Nt 2001 S v W → Calls Tryd.prog 11 #[.int .i64 n, .int .i64 d, .bool false, v, .slice a3 k3 c3, .int .i64 x] W fun r w' => r = .returned (.tuple #[A4 V', .int .i64 F', .int .i64 E']) ∧ Below W.heap.size W w')
include i1 i2 i3 c11 c24 c11b
set_option maxHeartbeats 2000000 in
theorem rises_e (hE : (E != 0) = true) :
    Calls Tryd.prog 8 #[.int .i64 n, .int .i64 d, .slice a1 k1 c1, .slice a2 k2 c2, .slice a3 k3 c3, .int .i64 x] w fun r w' => r = .returned (.bool true) ∧ Below w.heap.size w w' := by
  have c9 := awake6
  go_enter Tryd.func8, Tryd.ntmps8
  go_wp2_with (first | (go_at_call 9; refine (c9 _ (hT.go (by (repeat (first | with_reducible assumption | with_reducible exact Below.refl _ _ | with_reducible refine Below.setCell ?_ (by first | omega | (dsimp only; omega) | (simp <;> omega)) _ | with_reducible refine Below.alloc ?_ (by first | omega | (simp <;> omega)) _ | with_reducible refine Below.drew ?_))))).mono ?_; rintro x w1 ⟨rfl, hb1⟩; obtain ⟨hc1, hf1⟩ := bcell hb1; have hA1 := bnext (w0 := w) (by (repeat (first | with_reducible assumption | with_reducible exact Below.refl _ _ | with_reducible refine Below.setCell ?_ (by first | omega | (dsimp only; omega) | (simp <;> omega)) _ | with_reducible refine Below.alloc ?_ (by first | omega | (simp <;> omega)) _ | with_reducible refine Below.drew ?_))) hb1; have hs1 := hA1.size; clear hb1) | (go_at_call 11; refine (c11 _ (by (repeat (first | with_reducible assumption | with_reducible exact Below.refl _ _ | with_reducible refine Below.setCell ?_ (by first | omega | (dsimp only; omega) | (simp <;> omega)) _ | with_reducible refine Below.alloc ?_ (by first | omega | (simp <;> omega)) _ | with_reducible refine Below.drew ?_)))).mono ?_; rintro r w2 ⟨rfl, hb2⟩; clear c11; obtain ⟨hc2, hf2⟩ := bcell hb2; have hA2 := bnext (w0 := w) (by (repeat (first | with_reducible assumption | with_reducible exact Below.refl _ _ | with_reducible refine Below.setCell ?_ (by first | omega | (dsimp only; omega) | (simp <;> omega)) _ | with_reducible refine Below.alloc ?_ (by first | omega | (simp <;> omega)) _ | with_reducible refine Below.drew ?_))) hb2; have hs2 := hA2.size; clear hb2) | (go_at_call 24; refine (c24 _ (by (repeat (first | with_reducible assumption | with_reducible exact Below.refl _ _ | with_reducible refine Below.setCell ?_ (by first | omega | (dsimp only; omega) | (simp <;> omega)) _ | with_reducible refine Below.alloc ?_ (by first | omega | (simp <;> omega)) _ | with_reducible refine Below.drew ?_)))).mono ?_; rintro r w3 ⟨v3, rfl, ht3, hb3⟩; obtain ⟨hc3, hf3⟩ := bcell hb3; have hz3_0 : w2.heap.size < w3.heap.size := lt_below hb3 (by first | with_reducible assumption | (simp; done) | (simp; omega)); have hl3_0 := Nat.le_of_lt hz3_0; have hA3 := bnext (w0 := w) (by (repeat (first | with_reducible assumption | with_reducible exact Below.refl _ _ | with_reducible refine Below.setCell ?_ (by first | omega | (dsimp only; omega) | (simp <;> omega)) _ | with_reducible refine Below.alloc ?_ (by first | omega | (simp <;> omega)) _ | with_reducible refine Below.drew ?_))) hb3; have hs3 := hA3.size; clear hb3))
  go_wp2_with (first | (go_at_call 11; refine (c11b _ _ (by (repeat (first | with_reducible assumption | with_reducible exact Below.refl _ _ | with_reducible refine Below.setCell ?_ (by first | omega | (dsimp only; omega) | (simp <;> omega)) _ | with_reducible refine Below.alloc ?_ (by first | omega | (simp <;> omega)) _ | with_reducible refine Below.drew ?_))) ht3).mono ?_; rintro r w4 ⟨rfl, hb4⟩; obtain ⟨hc4, hf4⟩ := bcell hb4; have hz4_0 : w2.heap.size < w4.heap.size := lt_below hb4 (by first | with_reducible assumption | (simp; done) | (simp; omega)); have hl4_0 := Nat.le_of_lt hz4_0; have hA4 := bnext (w0 := w) (by (repeat (first | with_reducible assumption | with_reducible exact Below.refl _ _ | with_reducible refine Below.setCell ?_ (by first | omega | (dsimp only; omega) | (simp <;> omega)) _ | with_reducible refine Below.alloc ?_ (by first | omega | (simp <;> omega)) _ | with_reducible refine Below.drew ?_))) hb4; have hs4 := hA4.size; clear hb4))
  refine wp_whole (by kernel_rfl) (by kernel_rfl) fun hne hcell => ?_
  repeat go_big_quiet_step (fail)
  refine wpQuiet_nil fun w5 hb5 => ?_
  go_wp2
  go_ret
  exact ⟨rfl, bnext (by (repeat (first | with_reducible assumption | with_reducible exact Below.refl _ _ | with_reducible refine Below.setCell ?_ (by first | omega | (dsimp only; omega) | (simp <;> omega)) _ | with_reducible refine Below.alloc ?_ (by first | omega | (simp <;> omega)) _ | with_reducible refine Below.drew ?_))) hb5⟩
set_option maxHeartbeats 2000000 in
theorem rises_k (hE : E = 0) (hE' : E' = 0) (hV : V < 2 ^ 256) (hV' : V' < 2 ^ 256) (hle : V ≤ V') :
    Calls Tryd.prog 8 #[.int .i64 n, .int .i64 d, .slice a1 k1 c1, .slice a2 k2 c2, .slice a3 k3 c3, .int .i64 x] w fun r w' => r = .returned (.bool true) ∧ Below w.heap.size w w' := by
  have c9 := awake6
  subst hE hE'
  have hsg : sgn (V : Int) V' ≤ 0 := by
    rcases sgn_ways (V : Int) V' with ⟨_, e⟩ | ⟨_, e⟩ | ⟨h, _⟩
    · rw [e]; decide
    · rw [e]; decide
    · omega
  generalize hsv : sgn (V : Int) V' = sv at hsg
  go_enter Tryd.func8, Tryd.ntmps8
  go_wp2_with (first | (go_at_call 9; refine (c9 _ (hT.go (by (repeat (first | with_reducible assumption | with_reducible exact Below.refl _ _ | with_reducible refine Below.setCell ?_ (by first | omega | (dsimp only; omega) | (simp <;> omega)) _ | with_reducible refine Below.alloc ?_ (by first | omega | (simp <;> omega)) _ | with_reducible refine Below.drew ?_))))).mono ?_; rintro x w1 ⟨rfl, hb1⟩; obtain ⟨hc1, hf1⟩ := bcell hb1; have hA1 := bnext (w0 := w) (by (repeat (first | with_reducible assumption | with_reducible exact Below.refl _ _ | with_reducible refine Below.setCell ?_ (by first | omega | (dsimp only; omega) | (simp <;> omega)) _ | with_reducible refine Below.alloc ?_ (by first | omega | (simp <;> omega)) _ | with_reducible refine Below.drew ?_))) hb1; have hs1 := hA1.size; clear hb1) | (go_at_call 11; refine (c11 _ (by (repeat (first | with_reducible assumption | with_reducible exact Below.refl _ _ | with_reducible refine Below.setCell ?_ (by first | omega | (dsimp only; omega) | (simp <;> omega)) _ | with_reducible refine Below.alloc ?_ (by first | omega | (simp <;> omega)) _ | with_reducible refine Below.drew ?_)))).mono ?_; rintro r w2 ⟨rfl, hb2⟩; clear c11; obtain ⟨hc2, hf2⟩ := bcell hb2; have hA2 := bnext (w0 := w) (by (repeat (first | with_reducible assumption | with_reducible exact Below.refl _ _ | with_reducible refine Below.setCell ?_ (by first | omega | (dsimp only; omega) | (simp <;> omega)) _ | with_reducible refine Below.alloc ?_ (by first | omega | (simp <;> omega)) _ | with_reducible refine Below.drew ?_))) hb2; have hs2 := hA2.size; clear hb2) | (go_at_call 24; refine (c24 _ (by (repeat (first | with_reducible assumption | with_reducible exact Below.refl _ _ | with_reducible refine Below.setCell ?_ (by first | omega | (dsimp only; omega) | (simp <;> omega)) _ | with_reducible refine Below.alloc ?_ (by first | omega | (simp <;> omega)) _ | with_reducible refine Below.drew ?_)))).mono ?_; rintro r w3 ⟨v3, rfl, ht3, hb3⟩; obtain ⟨hc3, hf3⟩ := bcell hb3; have hz3_0 : w2.heap.size < w3.heap.size := lt_below hb3 (by first | with_reducible assumption | (simp; done) | (simp; omega)); have hl3_0 := Nat.le_of_lt hz3_0; have hA3 := bnext (w0 := w) (by (repeat (first | with_reducible assumption | with_reducible exact Below.refl _ _ | with_reducible refine Below.setCell ?_ (by first | omega | (dsimp only; omega) | (simp <;> omega)) _ | with_reducible refine Below.alloc ?_ (by first | omega | (simp <;> omega)) _ | with_reducible refine Below.drew ?_))) hb3; have hs3 := hA3.size; clear hb3))
  go_wp2_with (first | (go_at_call 11; refine (c11b _ _ (by (repeat (first | with_reducible assumption | with_reducible exact Below.refl _ _ | with_reducible refine Below.setCell ?_ (by first | omega | (dsimp only; omega) | (simp <;> omega)) _ | with_reducible refine Below.alloc ?_ (by first | omega | (simp <;> omega)) _ | with_reducible refine Below.drew ?_))) ht3).mono ?_; rintro r w4 ⟨rfl, hb4⟩; obtain ⟨hc4, hf4⟩ := bcell hb4; have hz4_0 : w2.heap.size < w4.heap.size := lt_below hb4 (by first | with_reducible assumption | (simp; done) | (simp; omega)); have hl4_0 := Nat.le_of_lt hz4_0; have hA4 := bnext (w0 := w) (by (repeat (first | with_reducible assumption | with_reducible exact Below.refl _ _ | with_reducible refine Below.setCell ?_ (by first | omega | (dsimp only; omega) | (simp <;> omega)) _ | with_reducible refine Below.alloc ?_ (by first | omega | (simp <;> omega)) _ | with_reducible refine Below.drew ?_))) hb4; have hs4 := hA4.size; clear hb4))
  have f1 : Four (w4.alloc (.cells #[.int .u64 (W4 V' 0), .int .u64 (W4 V' 1), .int .u64 (W4 V' 2), .int .u64 (W4 V' 3)] 27)) w2.heap.size 0 V := .of (by go_simp) (by go_simp) (by go_simp) (by go_simp)
  have f2 : Four (w4.alloc (.cells #[.int .u64 (W4 V' 0), .int .u64 (W4 V' 1), .int .u64 (W4 V' 2), .int .u64 (W4 V' 3)] 27)) w4.heap.size 0 V' := .of (by go_simp) (by go_simp) (by go_simp) (by go_simp)
  have l1 : w2.heap.size < (w4.alloc (.cells #[.int .u64 (W4 V' 0), .int .u64 (W4 V' 1), .int .u64 (W4 V' 2), .int .u64 (W4 V' 3)] 27)).heap.size := by simp; omega
  have l2 : w4.heap.size < (w4.alloc (.cells #[.int .u64 (W4 V' 0), .int .u64 (W4 V' 1), .int .u64 (W4 V' 2), .int .u64 (W4 V' 3)] 27)).heap.size := by simp
  have c21 : ∀ t : Wd (Bk (w4.alloc (.cells #[.int .u64 (W4 V' 0), .int .u64 (W4 V' 1), .int .u64 (W4 V' 2), .int .u64 (W4 V' 3)] 27))), Calls Tryd.prog 21 #[.slice (some ⟨w2.heap.size, 0, none⟩) 4 4, .slice (some ⟨w4.heap.size, 0, none⟩) 4 4] t.w fun e w' => e = .returned (.int .i64 sv) ∧ Below t.w.heap.size t.w w' := fun t => by
    rw [← hsv]
    exact (rcmp4 (f1.next l1 t.h) (f2.next l2 t.h) (Nat.lt_of_lt_of_le l1 t.h.size) (Nat.lt_of_lt_of_le l2 t.h.size) hV hV').mono fun e w' h => ⟨h.1, h.2 ▸ Below.refl _ _⟩
  refine wp_whole (by kernel_rfl) (by kernel_rfl) fun hne hcell => ?_
  repeat go_big_quiet_step (fail)
  go_big_quiet_step ((go_at_call 21; exact calls_wd _ bk_next (c21 _)))
  repeat go_big_quiet_step (fail)
  refine wpQuiet_nil fun w5 hb5 => ?_
  go_wp2
  go_ret
  exact ⟨rfl, bnext (by (repeat (first | with_reducible assumption | with_reducible exact Below.refl _ _ | with_reducible refine Below.setCell ?_ (by first | omega | (dsimp only; omega) | (simp <;> omega)) _ | with_reducible refine Below.alloc ?_ (by first | omega | (simp <;> omega)) _ | with_reducible refine Below.drew ?_))) hb5⟩
end
theorem bl_words {z : Nat → Int} {k V : Nat} (hz : Words z) (hv : (val z k).toNat = V) : bl V ≤ 64 * k := by
  refine (size_bl (z := z) (k := k) (m := k) hz ?_).1 (sizeL_le z k)
  have := (val_bd hz k).1; omega
theorem roundRises_any (n d : Int) (a1 : Option Addr) (k1 c1 : Nat) (z1 : Nat → Int) (a2 : Option Addr) (k2 c2 : Nat) (z2 : Nat → Int) (a3 : Option Addr) (k3 c3 : Nat) (z3 : Nat → Int) (x : Int) (w : World) (hT : Tab w) (h1 : Num w a1 k1 c1 z1) (h2 : Num w a2 k2 c2 z2) (h3 : Num w a3 k3 c3 z3) :
    Calls Tryd.prog 8 #[.int .i64 n, .int .i64 d, .slice a1 k1 c1, .slice a2 k2 c2, .slice a3 k3 c3, .int .i64 x] w fun r w' => r = .returned (.bool true) ∧ Below w.heap.size w w' := by
  have m1 := h1.2.1
  have m2 := h2.2.1
  have m3 := h3.2.1
  unfold maxLen at m1 m2 m3
  by_cases hl : 100 < k1 ∨ 100 < k2 ∨ 100 < k3
  · exact rises_long n d x a1 a2 a3 k1 c1 k2 c2 k3 c3 w hT (by omega) (by omega) (by omega) h1.1 h2.1 h3.1 hl
  · have t1 := nt_of h1 (by omega)
    have t3 := nt_of h3 (by omega)
    have b1 := (val_bd h1.2.2.1 k1).1
    have b2 := (val_bd h2.2.2.1 k2).1
    obtain ⟨N, hN⟩ : ∃ N, (val z1 k1).toNat = N := ⟨_, rfl⟩
    obtain ⟨M, hM⟩ : ∃ M, (val z2 k2).toNat = M := ⟨_, rfl⟩
    obtain ⟨D, hD⟩ : ∃ D, (val z3 k3).toNat = D := ⟨_, rfl⟩
    have w1 := bl_words h1.2.2.1 hN
    have w2 := bl_words h2.2.2.1 hM
    have w3 := bl_words h3.2.2.1 hD
    have hNM : bl (N + M) ≤ 6400 + 1 := bl_add (by omega) (by omega)
    have c24 : ∀ W, Below w.heap.size w W → Calls Tryd.prog 24 #[.slice a1 k1 c1, .slice a2 k2 c2] W fun r w' => ∃ v, r = .returned v ∧ Nt 2001 (N + M) v w' ∧ Below W.heap.size W w' := fun W hW => by
      refine (radd_val a1 a2 k1 c1 k2 c2 z1 z2 W (by omega) (by omega) (h1.next hW) (h2.next hW)).mono ?_
      rintro e w' ⟨g, k, cap, z, rfl, hk, hNum, hv, hB⟩
      exact ⟨_, rfl, nt_mk hNum (by omega) (by rw [hv]; omega), hB⟩
    rw [hN] at t1
    rw [hD] at t3
    have c11 := fun W (hW : Below w.heap.size w W) => rnd_any n d x false (hT.go hW) (t1.next hW) (t3.next hW)
    have c11b := fun W v (hW : Below w.heap.size w W) (hv : Nt 2001 (N + M) v W) => rnd_any n d x false (hT.go hW) hv (t3.next hW)
    by_cases h0 : rnE n d N D = 0
    · obtain ⟨hb, hk, hD0, q1, q2⟩ := rn_zero h0
      have h0' : rnE n d (N + M) D = 0 := by
        unfold rnE
        rw [if_pos ⟨hb, hk, hD0⟩, if_neg (by omega)]
      have hmo := rd_mono d N (N + M) x hb hD0 (by omega)
      have hlt := (rd_turn d N x hb hD0).2.2
      have hlt' := (rd_turn d (N + M) x hb hD0).2.2
      have h256 : 2 ^ (fN n + eN n) ≤ 2 ^ 256 := Nat.pow_le_pow_right (by decide) (by have := (bin_fm hb).fe; omega)
      refine rises_k n d x a1 a2 a3 k1 c1 k2 c2 k3 c3 w hT (by omega) (by omega) (by omega) h1.1 h2.1 h3.1 (by omega) (by omega) (by omega) (rnV n d false N D x) (rnV n d false (N + M) D x) (N + M) _ _ _ _ c11 c24 c11b h0 h0' ?_ ?_ ?_
      · unfold rnV; rw [if_pos h0]; omega
      · unfold rnV; rw [if_pos h0']; omega
      · unfold rnV; rw [if_pos h0, if_pos h0']; exact hmo
    · exact rises_e n d x a1 a2 a3 k1 c1 k2 c2 k3 c3 w hT (by omega) (by omega) (by omega) h1.1 h2.1 h3.1 (by omega) (by omega) (by omega) _ _ (N + M) _ _ _ _ c11 c24 c11b (by simpa using h0)
end Go.Proofs.YthcndcanahhbcaaDoor
