/-
  Texts that the proof leans on, joined: Sj8, Sk8, Sl8.
-/
import Derived.Test.YtckkibmehjlgaaaGreatDoorL34
import Derived.Test.YtckkibmehjlgaaaGreatDoorL1
import Derived.Test.YtckkibmehjlgaaaGreatDoorME
set_option linter.unusedVariables false
set_option linter.unusedSimpArgs false
namespace Go.Proofs.YtckkibmehjlgaaaGreatDoor

theorem sd_far {n : Int} {s : Bool} {x : Int} {k : Nat} {E : Int} {K j : Nat} (hbn : binN n) (h : isD (fN n) (leastN n) (mostN n) ⟨1, s, false, x, k⟩) (hk : k ≠ 0) (hS : Shd n x k E K) (hj : j < K) (e : Int) (he : e = E - j) (u : Nat) (hu : u = 0 ∨ u = 1) :
    rdV n 0 s (tN (dV (dsN (4 * k * oE x E) (zE x E) (j + 1)) + u) e) (tD e) e ≠ pkV n ⟨1, s, false, x, k⟩ := by
  have hZ := zE_pos x E
  have hO := oE_pos x E
  have hR : 4 * k * oE x E < 10 * zE x E := by
    have := hS.t1
    rw [tn_next] at this
    omega
  have hr := ds_rest hZ hR j
  have hst := hS.mn j hj
  unfold stK at hst
  rw [Bool.or_eq_false_iff] at hst
  obtain ⟨hun, hov⟩ := hst
  generalize dV (dsN (4 * k * oE x E) (zE x E) (j + 1)) = m at *
  obtain ⟨t1, t2⟩ := ten_shift n 0 s (m + u) e
  rw [← t1]
  have hD0 : 10 ^ (-e).toNat ≠ 0 := Nat.pos_iff_ne_zero.1 (Nat.pow_pos (by decide))
  obtain ⟨u1, u2⟩ := rd_shift n 0 s ((m + u) * 10 ^ e.toNat) hD0 (-x).toNat x.toNat x
  rw [show x + (((-x).toNat : Int) - (x.toNat : Int)) = 0 by omega] at u1 u2
  rw [← u1]
  have hD : 0 < 10 ^ (-e).toNat * 2 ^ x.toNat := Nat.mul_pos (Nat.pow_pos (by decide)) (Nat.two_pow_pos _)
  have hP : 0 < 10 ^ j * oE x E := Nat.mul_pos (Nat.pow_pos (by decide)) hO
  have hl := ten_link (A := m + u) (C := 0) (j := j) (E := E) (e := e) (x := x) rfl (by omega)
  rw [Nat.pow_zero, Nat.mul_one] at hl
  generalize (m + u) * 10 ^ e.toNat * 2 ^ (-x).toNat = N at *
  generalize 10 ^ (-e).toNat * 2 ^ x.toNat = D at *
  have eR : 10 ^ j * (4 * k * oE x E) = 4 * k * (10 ^ j * oE x E) := Nat.mul_left_comm _ _ _
  have eO : ∀ l, 10 ^ j * (l * oE x E) = l * (10 ^ j * oE x E) := fun l => Nat.mul_left_comm _ _ _
  rw [eR] at hr
  have hlt : rsN (4 * k * oE x E) (zE x E) j % zE x E < zE x E := Nat.mod_lt _ hZ
  refine rd_far hbn h hk (by omega) ?_
  rcases hu with rfl | rfl
  · unfold unK at hun
    rw [eO] at hun
    rw [Nat.add_zero] at hl
    have key := (near_link (c := evK k) (k := k) (l := lwN n x k) hP hD hl).1 (by omega)
    refine Or.inr ⟨key.1, ?_⟩
    rw [key.2, ← hr, Nat.add_sub_cancel_left]
    exact hun
  · unfold ovK at hov
    rw [eO] at hov
    have hs : (m + 1) * zE x E = m * zE x E + zE x E := Nat.succ_mul _ _
    have key := (near_link (c := evK k) (k := k) (l := 2) hP hD hl).2 (by omega)
    refine Or.inl ⟨key.1, ?_⟩
    rw [key.2, hs, ← hr, Nat.add_sub_add_left]
    exact hov
/-- a decimal number's text: what Read answers -/
theorem dec_cut (s : Bool) {D : List UInt8} {e ex : Int} (hg : gdD D) (h0 : D ≠ []) (hl : D.length ≤ 900) (he : -50000 ≤ ex ∧ ex ≤ 50000) (hE : e = ex + D.length - 1) :
    cutP (sgL s ++ unT D e) = some ⟨1, s, false, D, ex⟩ := by
  cases D with
  | nil => exact absurd rfl h0
  | cons c r =>
    have ha := gdD_all hg
    rw [List.all_cons, Bool.and_eq_true] at ha
    have hc0 : (c.toNat : Int) ≠ 48 := by
      rcases hg with h | ⟨_, h⟩
      · cases h
      · rw [by_zero] at h; exact h
    rw [List.length_cons] at hl hE
    have := un_cut s (e := e) ha.1 hc0 ha.2 (by omega) (by omega)
    rw [this, hE]
    congr 2
    omega
/-- one digit less, below -/
theorem low_facts {n x : Int} {k : Nat} {E : Int} {j : Nat} (hS : Shd n x k E (j + 1)) : gdD (dsN (4 * k * oE x E) (zE x E) (j + 1)) ∧ sdT n x k E (j + 1) = dsN (4 * k * oE x E) (zE x E) (j + 1) ++ [UInt8.ofNat (48 + laK (evK k) (4 * k * oE x E) (lwN n x k * oE x E) (2 * oE x E) (zE x E) (j + 1))] ∧
    1 ≤ laK (evK k) (4 * k * oE x E) (lwN n x k * oE x E) (2 * oE x E) (zE x E) (j + 1) ∧ laK (evK k) (4 * k * oE x E) (lwN n x k * oE x E) (2 * oE x E) (zE x E) (j + 1) ≤ 9 ∧ sdC n x k E (j + 1) = 0 := by
  have hZ := zE_pos x E
  have hZR : zE x E ≤ 4 * k * oE x E := hS.t0
  have hR : 4 * k * oE x E < 10 * zE x E := by
    have := hS.t1
    rw [tn_next] at this
    omega
  have hl9 := la_lt (c := evK k) (d := lwN n x k * oE x E) (u := 2 * oE x E) (K := j + 1) hZ (Nat.succ_pos j) hR hS.mn
  have hl1 := la_pos (c := evK k) (d := lwN n x k * oE x E) (u := 2 * oE x E) hZ hZR hS.st hS.mn
  have ha := ds_all hZ hR (j + 1)
  have h9 := dgK_le hZ hR 0
  have h1 := dg0_pos hZ hZR
  obtain ⟨r, hr⟩ := ds_first hZ hR hZR j
  refine ⟨?_, ?_, hl1, hl9, ?_⟩
  · rw [hr] at ha ⊢
    exact gd_cons ha (by rw [ofNat_dg h9]; omega)
  · unfold sdT shT
    rw [if_neg (by omega)]
  · unfold sdC shC
    rw [if_neg (by omega)]
end Go.Proofs.YtckkibmehjlgaaaGreatDoor

set_option linter.unusedSectionVars false
set_option maxRecDepth 20000
namespace Go.Proofs.YtckkibmehjlgaaaGreatDoor
open Go.RowKit

attribute [local irreducible] W4
section
variable (n : Int) (V : Nat) (w : World) (hT : Tab w) (hT10 : Tb10 w)
variable (c9 : ∀ W, Below w.heap.size w W → Calls Tryz.prog 9 #[] W fun r w' => r = .returned (.bool true) ∧ Below W.heap.size W w')
include hT hT10 c9
set_option maxHeartbeats 2000000 in
theorem law6_e (E : Int) (hE : (E != 0) = true) (T : List UInt8) (at_ : Int) (c10 : ∀ W, Tab W → Calls Tryz.prog 10 #[.int .i64 n, A4 V] W fun r w' => r = .returned (.tuple #[.string (B T), .int .i64 at_, .int .i64 E]) ∧ Below W.heap.size W w') :
    Calls Tryz.prog 6 #[.int .i64 n, A4 V] w fun r w' => r = .returned (.bool true) ∧ Below w.heap.size w w' := by
  have hsm := cell_set_map
  unfold A4 at *
  go_enter Tryz.func6, Tryz.ntmps6
  go_wp2_with (first
    | (go_at_call 9; refine (c9 _ bgo).mono ?_; rintro r w1 ⟨rfl, hb1⟩; obtain ⟨hc1, hf1⟩ := bcell hb1; have hz1_0 : w.heap.size < w1.heap.size := lt_below hb1 ltg; have hl1_0 := Nat.le_of_lt hz1_0; have hA1 := bnext (w0 := w) bgo hb1; have hs1 := hA1.size; clear hb1)
    | (go_at_call 10; refine (c10 _ (hT.go bgo)).mono ?_; rintro r w2 ⟨rfl, hb2⟩; obtain ⟨hc2, hf2⟩ := bcell hb2; have hz2_0 : w.heap.size < w2.heap.size := lt_below hb2 ltg; have hl2_0 := Nat.le_of_lt hz2_0; have hA2 := bnext (w0 := w) bgo hb2; have hs2 := hA2.size; clear hb2))
  go_ret
  exact ⟨by simp, bgo⟩
set_option maxHeartbeats 2000000 in
theorem law6_1 (c : UInt8) (at_ : Int) (c10 : ∀ W, Tab W → Calls Tryz.prog 10 #[.int .i64 n, A4 V] W fun r w' => r = .returned (.tuple #[.string (B [c]), .int .i64 at_, .int .i64 0]) ∧ Below W.heap.size W w') :
    Calls Tryz.prog 6 #[.int .i64 n, A4 V] w fun r w' => r = .returned (.bool true) ∧ Below w.heap.size w w' := by
  have hsm := cell_set_map
  have z0 : (B [c]).size = 1 := rfl
  generalize B [c] = Bc at *
  unfold A4 at *
  go_enter Tryz.func6, Tryz.ntmps6
  go_wp2_with (first
    | (go_at_call 9; refine (c9 _ bgo).mono ?_; rintro r w1 ⟨rfl, hb1⟩; obtain ⟨hc1, hf1⟩ := bcell hb1; have hz1_0 : w.heap.size < w1.heap.size := lt_below hb1 ltg; have hl1_0 := Nat.le_of_lt hz1_0; have hA1 := bnext (w0 := w) bgo hb1; have hs1 := hA1.size; clear hb1)
    | (go_at_call 10; refine (c10 _ (hT.go bgo)).mono ?_; rintro r w2 ⟨rfl, hb2⟩; obtain ⟨hc2, hf2⟩ := bcell hb2; have hz2_0 : w.heap.size < w2.heap.size := lt_below hb2 ltg; have hl2_0 := Nat.le_of_lt hz2_0; have hA2 := bnext (w0 := w) bgo hb2; have hs2 := hA2.size; clear hb2))
  go_ret
  exact ⟨by simp, bgo⟩
variable (T L H TL TH : List UInt8) (m M X Y : Nat) (F G at_ c x : Int) (s g : Bool) (k : Nat)
  (hm : m ≤ 1000) (hz : (B T).size = m + 2) (hL : (B T).extract 0 (m + 1) = B L) (hat : -100000 ≤ at_ ∧ at_ ≤ 100000)
  (c10 : ∀ W, Tab W → Calls Tryz.prog 10 #[.int .i64 n, A4 V] W fun r w' => r = .returned (.tuple #[.string (B T), .int .i64 at_, .int .i64 0]) ∧ Below W.heap.size W w')
  (c16 : ∀ W, Calls Tryz.prog 16 #[.int .i64 n, A4 V] W fun r w' => r = .returned (.tuple #[DV c s g x k, .int .i64 0]) ∧ Below W.heap.size W w')
  (c19 : ∀ W, Calls Tryz.prog 19 #[.string (B L)] W fun r w' => ∃ v, r = .returned v ∧ NT 6 M v w' ∧ Below W.heap.size W w')
  (c18 : ∀ W v, NT 6 M v W → Calls Tryz.prog 18 #[v, .slice (some ⟨W.heap.size, 0, none⟩) 1 1] (W.alloc (.cells #[.int .u64 1] 22)) fun r w' => ∃ u, r = .returned u ∧ NV 8 (M + 1) u w' ∧ Below W.heap.size W w')
  (c17 : ∀ W u, NV 8 (M + 1) u W → Calls Tryz.prog 17 #[u] W fun r w' => r = .returned (.string (B H)) ∧ Below W.heap.size W w')
  (c20l : ∀ W, Tb10 W → Calls Tryz.prog 20 #[.bool s, .string (B L), .int .i64 (at_ + 1)] W fun r w' => r = .returned (.string (B TL)) ∧ Below W.heap.size W w')
  (c20h : ∀ W, Tb10 W → Calls Tryz.prog 20 #[.bool s, .string (B H), .int .i64 (at_ + 1)] W fun r w' => r = .returned (.string (B TH)) ∧ Below W.heap.size W w')
  (c15l : ∀ W, Tab W → Tb10 W → Calls Tryz.prog 15 #[.int .i64 n, .int .i64 0, .string (B TL)] W fun r w' => r = .returned (.tuple #[A4 X, .int .i64 F, .int .i64 0]) ∧ Below W.heap.size W w')
  (c15h : ∀ W, Tab W → Tb10 W → Calls Tryz.prog 15 #[.int .i64 n, .int .i64 0, .string (B TH)] W fun r w' => r = .returned (.tuple #[A4 Y, .int .i64 G, .int .i64 0]) ∧ Below W.heap.size W w')
  (hx : decide (W4 X 0 = W4 V 0 ∧ W4 X 1 = W4 V 1 ∧ W4 X 2 = W4 V 2 ∧ W4 X 3 = W4 V 3) = false) (hy : decide (W4 Y 0 = W4 V 0 ∧ W4 Y 1 = W4 V 1 ∧ W4 Y 2 = W4 V 2 ∧ W4 Y 3 = W4 V 3) = false)
  (hf : by_ T 0 ≠ 48) (hl : by_ T (m + 1) ≠ 48)
include hm hz hL hat c10 c16 c19 c18 c17 c20l c20h c15l c15h hx hy hf hl
set_option maxHeartbeats 4000000 in
theorem law6_w : Calls Tryz.prog 6 #[.int .i64 n, A4 V] w fun r w' => r = .returned (.bool true) ∧ Below w.heap.size w w' := by
  have hsm := cell_set_map
  have hX := eq24 (W4 X 0) (W4 X 1) (W4 X 2) (W4 X 3) (W4 V 0) (W4 V 1) (W4 V 2) (W4 V 3)
  have hY := eq24 (W4 Y 0) (W4 Y 1) (W4 Y 2) (W4 Y 3) (W4 V 0) (W4 V 1) (W4 V 2) (W4 V 3)
  rw [hx] at hX
  rw [hy] at hY
  have hi0 := by_lt (l := T) (i := 0) (by omega)
  have hi1 := by_lt (l := T) (i := m + 1) (by omega)
  clear hx hy
  unfold DV A4 at *
  go_enter Tryz.func6, Tryz.ntmps6
  go_wp2_with (first
    | (go_at_call 9; refine (c9 _ bgo).mono ?_; rintro r w1 ⟨rfl, hb1⟩; obtain ⟨hc1, hf1⟩ := bcell hb1; have hz1_0 : w.heap.size < w1.heap.size := lt_below hb1 ltg; have hl1_0 := Nat.le_of_lt hz1_0; have hA1 := bnext (w0 := w) bgo hb1; have hs1 := hA1.size; clear hb1)
    | (go_at_call 10; refine (c10 _ (hT.go bgo)).mono ?_; rintro r w2 ⟨rfl, hb2⟩; obtain ⟨hc2, hf2⟩ := bcell hb2; have hz2_0 : w.heap.size < w2.heap.size := lt_below hb2 ltg; have hl2_0 := Nat.le_of_lt hz2_0; have hA2 := bnext (w0 := w) bgo hb2; have hs2 := hA2.size; clear hb2)
    | (go_at_call 16; refine (c16 _).mono ?_; rintro r w3 ⟨rfl, hb3⟩; obtain ⟨hc3, hf3⟩ := bcell hb3; have hz3_0 : w.heap.size < w3.heap.size := lt_below hb3 ltg; have hl3_0 := Nat.le_of_lt hz3_0; have hA3 := bnext (w0 := w) bgo hb3; have hs3 := hA3.size; clear hb3)
    | (go_at_call 19; refine (c19 _).mono ?_; rintro r w4 ⟨v4, rfl, hv4, hb4⟩; obtain ⟨hc4, hf4⟩ := bcell hb4; have hz4_0 : w.heap.size < w4.heap.size := lt_below hb4 ltg; have hl4_0 := Nat.le_of_lt hz4_0; have hz4_1 : w3.heap.size < w4.heap.size := lt_below hb4 ltg; have hl4_1 := Nat.le_of_lt hz4_1; have hA4 := bnext (w0 := w) bgo hb4; have hs4 := hA4.size; clear hb4)
    | (go_at_call 18; refine (c18 _ _ hv4).mono ?_; rintro r w5 ⟨v5, rfl, hv5, hb5⟩; obtain ⟨hc5, hf5⟩ := bcell hb5; have hz5_0 : w.heap.size < w5.heap.size := lt_below hb5 ltg; have hl5_0 := Nat.le_of_lt hz5_0; have hz5_1 : w3.heap.size < w5.heap.size := lt_below hb5 ltg; have hl5_1 := Nat.le_of_lt hz5_1; have hA5 := bnext (w0 := w) bgo hb5; have hs5 := hA5.size; clear hb5)
    | (go_at_call 17; refine (c17 _ _ hv5).mono ?_; rintro r w6 ⟨rfl, hb6⟩; obtain ⟨hc6, hf6⟩ := bcell hb6; have hz6_0 : w.heap.size < w6.heap.size := lt_below hb6 ltg; have hl6_0 := Nat.le_of_lt hz6_0; have hz6_1 : w3.heap.size < w6.heap.size := lt_below hb6 ltg; have hl6_1 := Nat.le_of_lt hz6_1; have hA6 := bnext (w0 := w) bgo hb6; have hs6 := hA6.size; clear hb6)
    | (have := hA8; go_at_call 20; refine (c20h _ (hT10.next bgo)).mono ?_; rintro r w9 ⟨rfl, hb9⟩; obtain ⟨hc9, hf9⟩ := bcell hb9; have hz9_0 : w.heap.size < w9.heap.size := lt_below hb9 ltg; have hl9_0 := Nat.le_of_lt hz9_0; have hz9_1 : w3.heap.size < w9.heap.size := lt_below hb9 ltg; have hl9_1 := Nat.le_of_lt hz9_1; have hz9_2 : w8.heap.size < w9.heap.size := lt_below hb9 ltg; have hl9_2 := Nat.le_of_lt hz9_2; have hA9 := bnext (w0 := w) bgo hb9; have hs9 := hA9.size; clear hb9)
    | (have := hA9; go_at_call 15; refine (c15h _ (hT.go bgo) (hT10.next bgo)).mono ?_; rintro r w10 ⟨rfl, hb10⟩; obtain ⟨hc10, hf10⟩ := bcell hb10; have hz10_0 : w.heap.size < w10.heap.size := lt_below hb10 ltg; have hl10_0 := Nat.le_of_lt hz10_0; have hz10_1 : w3.heap.size < w10.heap.size := lt_below hb10 ltg; have hl10_1 := Nat.le_of_lt hz10_1; have hz10_2 : w8.heap.size < w10.heap.size := lt_below hb10 ltg; have hl10_2 := Nat.le_of_lt hz10_2; have hA10 := bnext (w0 := w) bgo hb10; have hs10 := hA10.size; clear hb10)
    | (go_at_call 20; refine (c20l _ (hT10.next bgo)).mono ?_; rintro r w7 ⟨rfl, hb7⟩; obtain ⟨hc7, hf7⟩ := bcell hb7; have hz7_0 : w.heap.size < w7.heap.size := lt_below hb7 ltg; have hl7_0 := Nat.le_of_lt hz7_0; have hz7_1 : w3.heap.size < w7.heap.size := lt_below hb7 ltg; have hl7_1 := Nat.le_of_lt hz7_1; have hA7 := bnext (w0 := w) bgo hb7; have hs7 := hA7.size; clear hb7)
    | (go_at_call 15; refine (c15l _ (hT.go bgo) (hT10.next bgo)).mono ?_; rintro r w8 ⟨rfl, hb8⟩; obtain ⟨hc8, hf8⟩ := bcell hb8; have hz8_0 : w.heap.size < w8.heap.size := lt_below hb8 ltg; have hl8_0 := Nat.le_of_lt hz8_0; have hz8_1 : w3.heap.size < w8.heap.size := lt_below hb8 ltg; have hl8_1 := Nat.le_of_lt hz8_1; have hA8 := bnext (w0 := w) bgo hb8; have hs8 := hA8.size; clear hb8))
  go_ret
  exact ⟨by simp; exact ⟨hf, hl⟩, bgo⟩
end
end Go.Proofs.YtckkibmehjlgaaaGreatDoor

namespace Go.Proofs.YtckkibmehjlgaaaGreatDoor
open Go.RowKit

theorem rd0_256 (n : Int) (s : Bool) (N D : Nat) (x : Int) : rdV n 0 s N D x < 2 ^ 256 := by
  unfold rdV
  have : inB 0 s = true := by cases s <;> decide
  rw [this]
  split
  · exact pkV_256 _ _
  · split
    · simp only [if_true]; exact pkV_256 _ _
    · exact pkV_256 _ _
theorem w4_ne {X V : Nat} (hX : X < 2 ^ 256) (hV : V < 2 ^ 256) (h : X ≠ V) : decide (W4 X 0 = W4 V 0 ∧ W4 X 1 = W4 V 1 ∧ W4 X 2 = W4 V 2 ∧ W4 X 3 = W4 V 3) = false := by
  refine decide_eq_false fun ⟨h0, h1, h2, h3⟩ => h (A4_inj hX hV fun i hi => ?_)
  rcases i with _ | _ | _ | _ | i
  · exact h0
  · exact h1
  · exact h2
  · exact h3
  · omega
theorem by_snoc {l : List UInt8} {c : UInt8} : by_ (l ++ [c]) l.length = (c.toNat : Int) := by
  unfold by_
  rw [dif_pos (by simp)]
  simp
/-- a decimal number's text is read as its value is rounded -/
theorem lay_read {n : Int} (hb : binN n) (s : Bool) {D : List UInt8} {ex : Int} (hg : gdD D) (h0 : D ≠ []) (hl : D.length ≤ 100) (he : -7000 ≤ ex ∧ ex + D.length ≤ 6000) (he2 : -6000 ≤ ex + D.length) :
    (∀ W, Tb10 W → Calls Tryz.prog 20 #[.bool s, .string (B D), .int .i64 ex] W fun r w' => r = .returned (.string (B (sgL s ++ unT D (ex + D.length - 1)))) ∧ Below W.heap.size W w') ∧
    (∀ W, Tab W → Tb10 W → Calls Tryz.prog 15 #[.int .i64 n, .int .i64 0, .string (B (sgL s ++ unT D (ex + D.length - 1)))] W fun r w' => r = .returned (.tuple #[A4 (rdV n 0 s (tN (dV D) ex) (tD ex) ex), .int .i64 (rdF n 0 s (tN (dV D) ex) (tD ex) ex), .int .i64 0]) ∧ Below W.heap.size W w') := by
  have hD1 : 1 ≤ D.length := by
    cases D with
    | nil => exact absurd rfl h0
    | cons c r => simp
  have hcut := dec_cut s (e := ex + D.length - 1) hg h0 (by omega) (ex := ex) (by omega) rfl
  refine ⟨fun W hW => lay_v s D ex W hW (by omega) (by omega), fun W hW hW10 => ?_⟩
  have hlen : (sgL s ++ unT D (ex + D.length - 1)).length ≤ 3001 := by
    rw [List.length_append]
    have h1 := unT_len (D := D) (e := ex + D.length - 1) (by omega) (by omega)
    have : (sgL s).length ≤ 1 := by cases s <;> decide
    omega
  have := read_v (n := n) (d := 0) hb (by decide) hcut hlen W hW hW10
  have hp : pwE D.length ex = ex := by unfold pwE; omega
  unfold mkV mkF at this
  rw [if_pos rfl, if_pos rfl] at this
  dsimp only at this
  rw [hp] at this
  exact this
theorem tn_low {k : Nat} {x E : Int} (hk : k ≠ 0) (hx : -16990 ≤ x) (h : ¬ tnP k x (E + 1)) : -5200 ≤ E := by
  apply Classical.byContradiction
  intro hE
  apply h
  unfold tnP zE oE
  have e1 : (E + 1).toNat = 0 := by omega
  rw [e1, Nat.pow_zero, Nat.mul_one]
  obtain ⟨t, ht⟩ : ∃ t : Nat, t = 5115 := ⟨_, rfl⟩
  obtain ⟨a, ha⟩ : ∃ a : Nat, a = 16990 := ⟨_, rfl⟩
  have h1 : 10 ^ t ≤ 10 ^ (-(E + 1)).toNat := Nat.pow_le_pow_right (by decide) (by omega)
  have h2 : 2 ^ (-x).toNat ≤ 2 ^ a := Nat.pow_le_pow_right (by decide) (by omega)
  have h4 : 2 ^ a ≤ 10 ^ t := two_le_ten (by omega)
  have h5 : 1 ≤ 2 ^ x.toNat := Nat.two_pow_pos _
  have h6 : 1 * 10 ^ (-(E + 1)).toNat ≤ 2 ^ x.toNat * 10 ^ (-(E + 1)).toNat := Nat.mul_le_mul_right _ h5
  have h7 : 1 * (2 ^ x.toNat * 10 ^ (-(E + 1)).toNat) ≤ k * (2 ^ x.toNat * 10 ^ (-(E + 1)).toNat) := Nat.mul_le_mul_right _ (Nat.pos_of_ne_zero hk)
  rw [Nat.mul_assoc]
  exact Nat.mul_le_mul_left 4 (by omega)
/-- ShortestLeast -/
theorem shortestLeast_any (n : Int) (V : Nat) (w : World) (hT : Tab w) (hT10 : Tb10 w) (hV : V < 2 ^ 256) :
    Calls Tryz.prog 6 #[.int .i64 n, A4 V] w fun r w' => r = .returned (.bool true) ∧ Below w.heap.size w w' := by
  have c9 := fun W (hW : Below w.heap.size w W) => awake9 W (hT.go hW) (hT10.next hW)
  have c22 := fun W (hW : Tab W) => unpack_any n V W hW hV
  have c16 := fun W => runpack_any n V W hV
  by_cases hg : goodN n V
  · have e0 : unE n V = 0 := if_pos hg
    rw [e0] at c22 c16
    by_cases hc : (unD n V).c = 1
    · by_cases hk : (unD n V).k = 0
      · refine law6_e n V w hT hT10 c9 6 (by decide) [] 0 (fun W hW => ?_)
        refine dig10_0 n V (unD n V).c (unD n V).s (unD n V).g (unD n V).x (unD n V).k W hW c22 hc (fun W' => ?_)
        have := none_v 1 (unD n V).s (unD n V).g (unD n V).x (unD n V).k W' (by rw [hk]; decide)
        rw [decide_eq_true hk] at this
        exact this
      · have hf : finP n V := ⟨hg, hc, hk⟩
        obtain ⟨hb, hkb, hx1, hx2, hD⟩ := fin_facts hf
        obtain ⟨E, K, hS⟩ := Shd.ex (n := n) hkb hk ⟨hx1, hx2⟩
        have c10 := fun W (hW : Tab W) => digits_fin hf hV hS W hW
        obtain ⟨b1, b2, b3⟩ := hS.bd hkb hk ⟨hx1, hx2⟩
        have hfar := tn_far hkb hx2 hS.t0
        have hlow := tn_low hk hx1 hS.t1
        have hl := sd_len hkb hk hS
        have hpk := (back_un hg).2
        have hgf : (unD n V).g = false := by
          rcases hD with ⟨_, h, _⟩ | ⟨h, _⟩ | ⟨h, _⟩
          · exact h
          · rw [hc] at h; exact absurd h (by decide)
          · rw [hc] at h; exact absurd h (by decide)
        cases K with
        | zero =>
          obtain ⟨c, r, hT1, _⟩ := sd_cons hS
          have hr : r = [] := by
            rw [hT1, List.length_cons] at hl
            exact List.eq_nil_of_length_eq_zero (by omega)
          rw [hT1, hr] at c10
          exact law6_1 n V w hT hT10 c9 c _ c10
        | succ j =>
          obtain ⟨g1, g2, g3, g4, g5⟩ := low_facts hS
          have hZ := zE_pos (unD n V).x E
          have hR : 4 * (unD n V).k * oE (unD n V).x E < 10 * zE (unD n V).x E := by
            have := hS.t1
            rw [tn_next] at this
            omega
          obtain ⟨c0, r0, hT1, _, hc0, _⟩ := sd_cons hS
          rw [hl, g5, show E + ((0 : Nat) : Int) + 1 - ((j + 1 + 1 : Nat) : Int) = E - j - 1 by omega] at c10
          have hall := ds_all hZ hR (j + 1)
          have hlen := dsN_len (4 * (unD n V).k * oE (unD n V).x E) (zE (unD n V).x E) (j + 1)
          have hdlt := (dV_lt hall).1
          rw [hlen] at hdlt
          have hdd : isD (fN n) (leastN n) (mostN n) ⟨1, (unD n V).s, false, (unD n V).x, (unD n V).k⟩ := by
            have h := hD
            rw [show unD n V = ⟨(unD n V).c, (unD n V).s, (unD n V).g, (unD n V).x, (unD n V).k⟩ from rfl, hc, hgf] at h
            exact h
          have hpk2 : pkV n ⟨1, (unD n V).s, false, (unD n V).x, (unD n V).k⟩ = V := by
            have h := hpk
            rw [show unD n V = ⟨(unD n V).c, (unD n V).s, (unD n V).g, (unD n V).x, (unD n V).k⟩ from rfl, hc, hgf] at h
            exact h
          have far0 := sd_far (s := (unD n V).s) hb hdd hk hS (Nat.lt_succ_self j) (E - j) rfl 0 (Or.inl rfl)
          have far1 := sd_far (s := (unD n V).s) hb hdd hk hS (Nat.lt_succ_self j) (E - j) rfl 1 (Or.inr rfl)
          rw [hpk2] at far0 far1
          rw [Nat.add_zero] at far0
          have c19 : ∀ W, Calls Tryz.prog 19 #[.string (B (dsN (4 * (unD n V).k * oE (unD n V).x E) (zE (unD n V).x E) (j + 1)))] W fun r w' => ∃ v, r = .returned v ∧ NT 6 (dV (dsN (4 * (unD n V).k * oE (unD n V).x E) (zE (unD n V).x E) (j + 1))) v w' ∧ Below W.heap.size W w' := fun W =>
            (number8 _ W hall (by omega)).mono fun r w' ⟨v, e1, e2, e3⟩ => ⟨v, e1, e2.tight (bl_10 (dV_lt hall).1 (by omega)), e3⟩
          rw [g2] at c10
          have hT2 := hT1
          rw [g2] at hT2
          generalize laK (evK (unD n V).k) (4 * (unD n V).k * oE (unD n V).x E) (lwN n (unD n V).x (unD n V).k * oE (unD n V).x E) (2 * oE (unD n V).x E) (zE (unD n V).x E) (j + 1) = la at *
          generalize dsN (4 * (unD n V).k * oE (unD n V).x E) (zE (unD n V).x E) (j + 1) = Lo at *
          have hLo0 : Lo ≠ [] := by intro h; rw [h] at hlen; simp at hlen
          obtain ⟨f1, f2, f3⟩ := dcD_facts (V := ((dV Lo + 1 : Nat) : Int)) (L := j + 2) (by omega) (by
            have e : ((10 : Int) ^ (j + 2)) = ((10 ^ (j + 2) : Nat) : Int) := by simp
            rw [e]
            have : 10 ^ (j + 2) = 10 * 10 ^ (j + 1) := by rw [Nat.pow_succ, Nat.mul_comm]
            omega)
          have f2' : dV (dcD ((dV Lo + 1 : Nat) : Int) (j + 2)) = dV Lo + 1 := by omega
          generalize dcD ((dV Lo + 1 : Nat) : Int) (j + 2) = Hi at *
          have hHi0 : Hi ≠ [] := by intro h; rw [h, dV_nil] at f2'; omega
          have hHi1 : 1 ≤ Hi.length := by
            cases Hi with
            | nil => exact absurd rfl hHi0
            | cons c r => simp
          obtain ⟨l20, l15⟩ := lay_read hb (unD n V).s (ex := E - j) g1 hLo0 (by omega) (by omega) (by omega)
          obtain ⟨h20, h15⟩ := lay_read hb (unD n V).s (ex := E - j) f1 hHi0 (by omega) (by omega) (by omega)
          rw [f2'] at h15
          rw [show E - (j : Int) = E - j - 1 + 1 by omega] at l20 h20
          refine law6_w n V w hT hT10 c9 _ Lo Hi _ _ j (dV Lo) _ _ _ _ (E - j - 1) _ _ _ _ _ (by omega) ?_ ?_ (by omega) c10 c16 c19 ?_ ?_ l20 h20 (by rw [show E - (j : Int) - 1 + 1 = E - j by omega]; exact l15) (by rw [show E - (j : Int) - 1 + 1 = E - j by omega]; exact h15)
            (w4_ne (rd0_256 _ _ _ _ _) hV far0) (w4_ne (rd0_256 _ _ _ _ _) hV far1) ?_ ?_
          · rw [B_size, List.length_append, hlen]; rfl
          · rw [B_ext, List.drop_zero, ← hlen, List.take_left']
            rfl
          · exact fun W v h => (radd_nv (by decide) (by decide) (h.next (below1 _ _)).nv (nt_un1 (W := W) (V := 1) rfl rfl (by decide) (by decide)).nv).mono fun r w' ⟨u, e1, e2, e3⟩ => ⟨u, e1, e2, bnx (below1 _ _) e3⟩
          · exact fun W u h => dec_is f1 f2' h
          · rw [hT2, by_zero]; exact hc0
          · rw [← hlen, by_snoc, ofNat_dg g4]; omega
    · have hc' : ((unD n V).c != 1) = true := by simpa using hc
      exact law6_e n V w hT hT10 c9 6 (by decide) [] 0 (fun W hW => dig10_c n V (unD n V).c (unD n V).s (unD n V).g (unD n V).x (unD n V).k W hW c22 hc')
  · have e1 : unE n V = 1 := if_neg hg
    rw [e1] at c22 c16
    exact law6_e n V w hT hT10 c9 1 (by decide) [] 0 (fun W hW => dig10_e n V (unD n V).c (unD n V).s (unD n V).g (unD n V).x (unD n V).k W hW 1 (by decide) c22)
end Go.Proofs.YtckkibmehjlgaaaGreatDoor
