/-
  Texts that the proof leans on.
-/
import Derived.Test.YtgknbdehlmlipaaDoorJ16
import Derived.Test.YtgknbdehlmlipaaDoorJ21
import Derived.Test.YtgknbdehlmlipaaDoorJ11
import Derived.Test.YtgknbdehlmlipaaDoorJ19
import Derived.Test.YtgknbdehlmlipaaDoorJ18
import Derived.Test.YtgknbdehlmlipaaDoorJ23
import Derived.Deep.RegionWith
import Derived.Test.YtgknbdehlmlipaaDoorJ17
import Derived.Test.YtgknbdehlmlipaaDoorJ25
import Derived.Test.YtgknbdehlmlipaaDoorJ3
import Derived.Test.YtgknbdehlmlipaaDoorJ24
import Derived.Test.YtgknbdehlmlipaaDoorJ9
set_option linter.unusedVariables false
set_option linter.unusedSectionVars false
set_option linter.unusedSimpArgs false
set_option maxRecDepth 20000
namespace Go.Proofs.YtgknbdehlmlipaaDoor
open Go.RowKit

/-- a pattern lies in a block of its own -/
structure C4 (g X : Nat) (w : World) : Prop where
  lt : g < w.heap.size
  c0 : w.cell? ⟨g, 0, none⟩ = some (.int .u64 (W4 X 0))
  c1 : w.cell? ⟨g, 1, none⟩ = some (.int .u64 (W4 X 1))
  c2 : w.cell? ⟨g, 2, none⟩ = some (.int .u64 (W4 X 2))
  c3 : w.cell? ⟨g, 3, none⟩ = some (.int .u64 (W4 X 3))
  f0 : w.frozen? ⟨g, 0, none⟩ = false
  f1 : w.frozen? ⟨g, 1, none⟩ = false
  f2 : w.frozen? ⟨g, 2, none⟩ = false
  f3 : w.frozen? ⟨g, 3, none⟩ = false
theorem C4.next {g X : Nat} {w w' : World} (h : C4 g X w) (hb : Below w.heap.size w w') : C4 g X w' :=
  ⟨Nat.lt_of_lt_of_le h.lt hb.size, (hb.cell (p := ⟨g, 0, none⟩) h.lt).trans h.c0, (hb.cell (p := ⟨g, 1, none⟩) h.lt).trans h.c1, (hb.cell (p := ⟨g, 2, none⟩) h.lt).trans h.c2, (hb.cell (p := ⟨g, 3, none⟩) h.lt).trans h.c3,
    (hb.frozen (p := ⟨g, 0, none⟩) h.lt).trans h.f0, (hb.frozen (p := ⟨g, 1, none⟩) h.lt).trans h.f1, (hb.frozen (p := ⟨g, 2, none⟩) h.lt).trans h.f2, (hb.frozen (p := ⟨g, 3, none⟩) h.lt).trans h.f3⟩
theorem C4.new (w : World) (t : TypeId) : C4 w.heap.size 0 (w.alloc (.cells #[.int .u64 0, .int .u64 0, .int .u64 0, .int .u64 0] t)) := by
  refine ⟨by simp, ?_, ?_, ?_, ?_, ?_, ?_, ?_, ?_⟩ <;> first | (rw [W4_zero]; go_simp) | go_simp
/-- a pattern written over another one -/
abbrev put4C (w : World) (g X : Nat) : World := (((w.setCell ⟨g, 0, none⟩ (.int .u64 (W4 X 0))).setCell ⟨g, 1, none⟩ (.int .u64 (W4 X 1))).setCell ⟨g, 2, none⟩ (.int .u64 (W4 X 2))).setCell ⟨g, 3, none⟩ (.int .u64 (W4 X 3))
theorem C4.put {g X Y : Nat} {w : World} (h : C4 g X w) : C4 g Y (put4C w g Y) := by
  have hsm := cell_set_map
  obtain ⟨h0, h1, h2, h3, h4, h5, h6, h7, h8⟩ := h
  refine ⟨by simp; exact h0, ?_, ?_, ?_, ?_, ?_, ?_, ?_, ?_⟩ <;> go_simp
theorem put4C_upd (w : World) (g X : Nat) : Upd g w (put4C w g X) := ((((Upd.refl g w).set 0 _).set 1 _).set 2 _).set 3 _
theorem NT.lt {K V b k c : Nat} {w : World} (h : NT K V (.slice (some ⟨b, 0, none⟩) k c) w) : b < w.heap.size := by
  obtain ⟨g', k', c', z, e, hk, hN, hv, hs⟩ := h
  cases e
  rcases hN.2.2.2.2 with ⟨h, _⟩ | ⟨b', off', h, hbs, _⟩
  · cases h
  · cases h; exact hbs
attribute [local irreducible] W4 NT NV
end Go.Proofs.YtgknbdehlmlipaaDoor

namespace Go.Proofs.YtgknbdehlmlipaaDoor
open Go.RowKit

/-- a number or nothing -/
def NN (K X : Nat) (v : Value) (w : World) : Prop := (v = .slice none 0 0 ∧ X = 0) ∨ NT K X v w
theorem NN.next {K X : Nat} {v : Value} {w w' : World} (h : NN K X v w) (hb : Below w.heap.size w w') : NN K X v w' := by
  rcases h with h | h
  · exact Or.inl h
  · exact Or.inr (h.next hb)
attribute [local irreducible] W4 NT NV NN
end Go.Proofs.YtgknbdehlmlipaaDoor

namespace Go.Proofs.YtgknbdehlmlipaaDoor
open Go.RowKit
theorem C4.other {g g' X Y : Nat} {w : World} (h : C4 g X w) (hne : g ≠ g') : C4 g X (put4C w g' Y) := by
  have hU := put4C_upd w g' Y
  have hb := hU.block g hne
  have hl : g < (put4C w g' Y).heap.size := by rw [hU.size]; exact h.lt
  exact ⟨hl, (World.cell?_of_block (a := ⟨g, 0, none⟩) hb).trans h.c0, (World.cell?_of_block (a := ⟨g, 1, none⟩) hb).trans h.c1, (World.cell?_of_block (a := ⟨g, 2, none⟩) hb).trans h.c2, (World.cell?_of_block (a := ⟨g, 3, none⟩) hb).trans h.c3, (World.frozen?_of_block (a := ⟨g, 0, none⟩) hb).trans h.f0, (World.frozen?_of_block (a := ⟨g, 1, none⟩) hb).trans h.f1, (World.frozen?_of_block (a := ⟨g, 2, none⟩) hb).trans h.f2, (World.frozen?_of_block (a := ⟨g, 3, none⟩) hb).trans h.f3⟩
attribute [local irreducible] W4
section
variable (C c : Nat) (n : Int) (w : World)
set_option maxHeartbeats 400000 in
theorem dpck_n (ck : ∀ W, Calls Tryd.prog 78 #[.int .i64 n] W fun r w' => r = .returned (.bool false) ∧ W = w') :
    Calls Tryd.prog 80 #[A4 C, .int .i64 n] w fun r w' => r = .returned (.tuple #[A4 0, .int .i64 1]) ∧ Below w.heap.size w w' := by
  rw [Z4_eq]
  have hsm := cell_set_map
  go_enter Tryd.func80, Tryd.ntmps80
  go_wp2_with (go_at_call 78; refine (ck _).mono ?_; rintro r w1 ⟨rfl, rfl⟩)
  exact bodyPost_ret (by simp only [results, Tryd.results80]; go_simp) rfl ⟨rfl, bgo⟩
set_option maxHeartbeats 400000 in
theorem dupk_n (ck : ∀ W, Calls Tryd.prog 78 #[.int .i64 n] W fun r w' => r = .returned (.bool false) ∧ W = w') :
    Calls Tryd.prog 70 #[A4 C, .int .i64 n] w fun r w' => r = .returned (.tuple #[A4 0, .int .i64 1]) ∧ Below w.heap.size w w' := by
  rw [Z4_eq]
  have hsm := cell_set_map
  go_enter Tryd.func70, Tryd.ntmps70
  go_wp2_with (go_at_call 78; refine (ck _).mono ?_; rintro r w1 ⟨rfl, rfl⟩)
  exact bodyPost_ret (by simp only [results, Tryd.results70]; go_simp) rfl ⟨rfl, bgo⟩
end
section
variable (C c : Nat) (w : World) (A P X D T : Nat → Nat) (cr : Nat → Int) (L : Int) (hc : c ≤ 11)
  (ck : ∀ W, Calls Tryd.prog 78 #[.int .i64 (c : Int)] W fun r w' => r = .returned (.bool true) ∧ W = w')
  (cd : Hid (∀ i, i < c → ∀ W, Calls Tryd.prog 82 #[A4 (A i), .int .u64 1000] W fun r w' => r = .returned (.tuple #[A4 (A (i + 1)), .int .u64 (X i : Int)]) ∧ Below W.heap.size W w'))
  (hX : Hid (∀ i, X i < 1000))
  (ce : Hid (∀ i W, Calls Tryd.prog 83 #[.int .i64 (X i : Int)] W fun r w' => r = .returned (.tuple #[.int .i64 (D i : Int), .int .i64 0]) ∧ W = w'))
  (hD : Hid (∀ i, D i < 1024))
  (co : Hid (∀ i W, Calls Tryd.prog 51 #[.int .u64 (D i : Int)] W fun r w' => r = .returned (A4 (D i)) ∧ Below W.heap.size W w'))
  (cs : Hid (∀ i, i < c → ∀ W, Calls Tryd.prog 47 #[A4 (D i), .int .i64 (10 * (i : Int))] W fun r w' => r = .returned (A4 (T i)) ∧ Below W.heap.size W w'))
  (ca : Hid (∀ i, i < c → ∀ W, Calls Tryd.prog 33 #[A4 (P i), A4 (T i)] W fun r w' => r = .returned (.tuple #[A4 (P (i + 1)), .int .u64 (cr i)]) ∧ Below W.heap.size W w'))
  (cl : ∀ W, Calls Tryd.prog 48 #[A4 (A c)] W fun r w' => r = .returned (.int .i64 L) ∧ Below W.heap.size W w')
  (hA : A 0 = C) (hP : P 0 = 0)
include hc ck cd hX ce hD co cs ca cl hA hP
set_option maxHeartbeats 4000000 in
theorem dpck_w (R : Nat) (E : Int) (hR : (¬ 0 < L ∧ R = P c ∧ E = 0) ∨ (0 < L ∧ R = 0 ∧ E = 3)) : Calls Tryd.prog 80 #[A4 C, .int .i64 (c : Int)] w fun r w' => r = .returned (.tuple #[A4 R, .int .i64 E]) ∧ Below w.heap.size w w' := by
  have hsm := cell_set_map
  go_enter Tryd.func80, Tryd.ntmps80
  go_wp2_with (go_at_call 78; refine (ck _).mono ?_; rintro r w1 ⟨rfl, rfl⟩)
  go_loopw [8, 9, 10, 11, 18] (fun _ _ _ _ t wr => ∃ (i : Nat), i ≤ c ∧ t = .int .i64 (i : Int) ∧ C4 (w.heap.size + 1 + 1) (A i) wr ∧ C4 (w.heap.size + 1 + 1 + 1) (P i) wr ∧ C4 (w.heap.size + 1) 0 wr ∧ Below w.heap.size w wr) (fun _ _ _ _ t _ => c - (intOf t).toNat)
  case atStart =>
    refine ⟨0, Nat.zero_le _, rfl, ?_, ?_, ?_, bgo⟩
    · rw [hA]; refine ⟨by simp, ?_, ?_, ?_, ?_, ?_, ?_, ?_, ?_⟩ <;> go_simp
    · rw [hP]; refine ⟨by simp, ?_, ?_, ?_, ?_, ?_, ?_, ?_, ?_⟩ <;> first | (rw [W4_zero]; go_simp) | go_simp
    · refine ⟨by simp, ?_, ?_, ?_, ?_, ?_, ?_, ?_, ?_⟩ <;> first | (rw [W4_zero]; go_simp) | go_simp
  case round =>
    obtain ⟨i, hi, rfl, h3, h4, h5, hbw⟩ := hrel
    have hl3 := h3.lt
    have hl4 := h4.lt
    have hl5 := h5.lt
    have hl6 : w.heap.size < wr.heap.size := by omega
    obtain ⟨_, o0, o1, o2, o3, g0, g1, g2, g3⟩ := id h3
    obtain ⟨_, p0, p1, p2, p3, f0, f1, f2, f3⟩ := id h4
    obtain ⟨_, q0, q1, q2, q3, e0, e1, e2, e3⟩ := id h5
    by_cases hic : i < c
    · have hl : (i : Int) < (c : Int) := by omega
      have dd := cd.out i hic
      have de := ce.out i
      have do' := co.out i
      have ds := cs.out i hic
      have da := ca.out i hic
      have dX := hX.out i
      have dD := hD.out i
      have x0 : (0 : Int) ≤ (X i : Int) := by omega
      have x1 : (X i : Int) < 1000 := by omega
      have d0 : (0 : Int) ≤ (D i : Int) := by omega
      have d1 : (D i : Int) < 1024 := by omega
      clear hR cl dX dD
      generalize D i = Di at *
      generalize X i = Xi at *
      generalize P i = Pi at *
      generalize A i = Ai at *
      generalize T i = Ti at *
      go_wp2_with (first
        | (go_at_call 82; refine (dd _).mono ?_; rintro r w2 ⟨rfl, hb2⟩; have hn3 := h3.next hb2; have hn4 := h4.next hb2; have hn5 := h5.next hb2; obtain ⟨hc2, hf2⟩ := bcell hb2; have hz2_0 : w.heap.size < w2.heap.size := lt_below hb2 ltg; have hl2_0 := Nat.le_of_lt hz2_0; have hz2_1 : w.heap.size + 1 < w2.heap.size := lt_below hb2 ltg; have hl2_1 := Nat.le_of_lt hz2_1; have hz2_2 : w.heap.size + 1 + 1 < w2.heap.size := lt_below hb2 ltg; have hl2_2 := Nat.le_of_lt hz2_2; have hz2_3 : w.heap.size + 1 + 1 + 1 < w2.heap.size := lt_below hb2 ltg; have hl2_3 := Nat.le_of_lt hz2_3; have hA2 := bnext (w0 := w) bgo hb2; have hs2 := hA2.size; clear hb2)
        | (go_at_call 83; refine (de _).mono ?_; rintro r w3 ⟨rfl, rfl⟩))
      have hn3' := hn3.put (Y := A (i + 1))
      have hn4' := hn4.other (g' := w.heap.size + 1 + 1) (Y := A (i + 1)) (by omega)
      have hn5' := hn5.other (g' := w.heap.size + 1 + 1) (Y := A (i + 1)) (by omega)
      refine wp_tail 8 (by kernel_rfl) (by kernel_rfl) (by kernel_rfl) (fun _ _ d _ _ h => by cases d <;> exact h) fun hne hcell => ?_
      simp only [List.take_succ_cons, List.take_zero, List.drop_succ_cons, List.drop_zero]
      repeat go_big_quiet_step (fail)
      go_big_quiet_step ((go_at_call 51; exact calls_wd _ bk_next (do' _)))
      repeat go_big_quiet_step (fail)
      go_big_quiet_step ((go_at_call 47; exact calls_wd _ bk_next (ds _)))
      repeat go_big_quiet_step (fail)
      go_big_quiet_step ((go_at_call 33; exact calls_wd _ bk_next (da _)))
      refine wpQuiet_nil fun w4 hb4 => ?_
      have hm3 := hn3'.next hb4
      have hm4 := hn4'.next hb4
      have hm5 := hn5'.next hb4
      obtain ⟨hc4, hf4⟩ := bcell hb4; have hz4_0 : w.heap.size < w4.heap.size := lt_below hb4 ltg; have hl4_0 := Nat.le_of_lt hz4_0; have hz4_1 : w.heap.size + 1 < w4.heap.size := lt_below hb4 ltg; have hl4_1 := Nat.le_of_lt hz4_1; have hz4_2 : w.heap.size + 1 + 1 < w4.heap.size := lt_below hb4 ltg; have hl4_2 := Nat.le_of_lt hz4_2; have hz4_3 : w.heap.size + 1 + 1 + 1 < w4.heap.size := lt_below hb4 ltg; have hl4_3 := Nat.le_of_lt hz4_3; have hA4 := bnext (w0 := w) bgo hb4; have hs4 := hA4.size; clear hb4
      go_wp2
      go_roundw
      case rel => exact ⟨i + 1, by omega, by go_num, hm3.other (by omega), hm4.put, hm5.other (by omega), bgo⟩
      case measure => simp [intOf]; omega
    · have hl : ¬ (i : Int) < (c : Int) := by omega
      obtain rfl : i = c := by omega
      rcases hR with ⟨hA0, rfl, rfl⟩ | ⟨hA0, rfl, rfl⟩
      · go_wp2_with (go_at_call 48; refine (cl _).mono ?_; rintro r w2 ⟨rfl, hb2⟩; obtain ⟨hc2, hf2⟩ := bcell hb2; have hz2_0 : w.heap.size < w2.heap.size := lt_below hb2 ltg; have hl2_0 := Nat.le_of_lt hz2_0; have hz2_1 : w.heap.size + 1 < w2.heap.size := lt_below hb2 ltg; have hl2_1 := Nat.le_of_lt hz2_1; have hz2_2 : w.heap.size + 1 + 1 < w2.heap.size := lt_below hb2 ltg; have hl2_2 := Nat.le_of_lt hz2_2; have hz2_3 : w.heap.size + 1 + 1 + 1 < w2.heap.size := lt_below hb2 ltg; have hl2_3 := Nat.le_of_lt hz2_3; have hA2 := bnext (w0 := w) bgo hb2; have hs2 := hA2.size; clear hb2)
        exact bodyPost_ret (by simp only [results, Tryd.results80]; go_simp) rfl ⟨rfl, bgo⟩
      · go_wp2_with (go_at_call 48; refine (cl _).mono ?_; rintro r w2 ⟨rfl, hb2⟩; obtain ⟨hc2, hf2⟩ := bcell hb2; have hz2_0 : w.heap.size < w2.heap.size := lt_below hb2 ltg; have hl2_0 := Nat.le_of_lt hz2_0; have hz2_1 : w.heap.size + 1 < w2.heap.size := lt_below hb2 ltg; have hl2_1 := Nat.le_of_lt hz2_1; have hz2_2 : w.heap.size + 1 + 1 < w2.heap.size := lt_below hb2 ltg; have hl2_2 := Nat.le_of_lt hz2_2; have hz2_3 : w.heap.size + 1 + 1 + 1 < w2.heap.size := lt_below hb2 ltg; have hl2_3 := Nat.le_of_lt hz2_3; have hA2 := bnext (w0 := w) bgo hb2; have hs2 := hA2.size; clear hb2)
        exact bodyPost_ret (v := .tuple #[A4 0, .int .i64 3]) (by rw [Z4_eq]; simp only [results, Tryd.results80]; go_simp) rfl ⟨rfl, bgo⟩
end
section
variable (B c : Nat) (w : World) (L : Int) (hc : c ≤ 11)
  (ck : ∀ W, Calls Tryd.prog 78 #[.int .i64 (c : Int)] W fun r w' => r = .returned (.bool true) ∧ W = w')
  (cl : ∀ W, Calls Tryd.prog 48 #[A4 B] W fun r w' => r = .returned (.int .i64 L) ∧ Below W.heap.size W w')
include hc ck cl
set_option maxHeartbeats 1000000 in
theorem dupk_l (hL : 10 * (c : Int) < L) : Calls Tryd.prog 70 #[A4 B, .int .i64 (c : Int)] w fun r w' => r = .returned (.tuple #[A4 0, .int .i64 3]) ∧ Below w.heap.size w w' := by
  rw [Z4_eq]
  have hsm := cell_set_map
  have hc0 : (0 : Int) ≤ (c : Int) := by omega
  have hc1 : (c : Int) ≤ 11 := by omega
  go_enter Tryd.func70, Tryd.ntmps70
  go_wp2_with (first
    | (go_at_call 78; refine (ck _).mono ?_; rintro r w1 ⟨rfl, rfl⟩)
    | (go_at_call 48; refine (cl _).mono ?_; rintro r w2 ⟨rfl, hb2⟩; obtain ⟨hc2, hf2⟩ := bcell hb2; have hz2_0 : w.heap.size < w2.heap.size := lt_below hb2 ltg; have hl2_0 := Nat.le_of_lt hz2_0; have hz2_1 : w.heap.size + 1 < w2.heap.size := lt_below hb2 ltg; have hl2_1 := Nat.le_of_lt hz2_1; have hA2 := bnext (w0 := w) bgo hb2; have hs2 := hA2.size; clear hb2))
  exact bodyPost_ret (by simp only [results, Tryd.results70]; go_simp) rfl ⟨rfl, bgo⟩
variable (U X D S M : Nat → Nat) (cr cm : Nat → Int)
  (cs : Hid (∀ k, k < c → ∀ W, Calls Tryd.prog 45 #[A4 B, .int .i64 (10 * (k : Int))] W fun r w' => r = .returned (A4 (S k)) ∧ Below W.heap.size W w'))
  (hX : Hid (∀ k, W4 (S k) 0 % 1024 = (X k : Int) ∧ X k < 1024 ∧ 0 ≤ W4 (S k) 0))
  (ce : Hid (∀ k W, Calls Tryd.prog 79 #[.int .i64 (X k : Int)] W fun r w' => r = .returned (.tuple #[.int .i64 (D k : Int), .int .i64 0]) ∧ W = w'))
  (hD : Hid (∀ k, D k < 1000))
  (cu : Hid (∀ k, k < c → ∀ W, Calls Tryd.prog 59 #[A4 (U (k + 1)), .int .u64 1000] W fun r w' => r = .returned (.tuple #[A4 (M k), .int .u64 (cm k)]) ∧ Below W.heap.size W w'))
  (co : Hid (∀ k W, Calls Tryd.prog 51 #[.int .u64 (D k : Int)] W fun r w' => r = .returned (A4 (D k)) ∧ Below W.heap.size W w'))
  (ca : Hid (∀ k, k < c → ∀ W, Calls Tryd.prog 33 #[A4 (M k), A4 (D k)] W fun r w' => r = .returned (.tuple #[A4 (U k), .int .u64 (cr k)]) ∧ Below W.heap.size W w'))
  (hU : U c = 0)
include cs hX ce hD cu co ca hU
set_option maxHeartbeats 4000000 in
theorem dupk_w (hL : ¬ 10 * (c : Int) < L) : Calls Tryd.prog 70 #[A4 B, .int .i64 (c : Int)] w fun r w' => r = .returned (.tuple #[A4 (U 0), .int .i64 0]) ∧ Below w.heap.size w w' := by
  have hsm := cell_set_map
  have hc0 : (0 : Int) ≤ (c : Int) := by omega
  have hc1 : (c : Int) ≤ 11 := by omega
  go_enter Tryd.func70, Tryd.ntmps70
  go_wp2_with (first
    | (go_at_call 78; refine (ck _).mono ?_; rintro r w1 ⟨rfl, rfl⟩)
    | (go_at_call 48; refine (cl _).mono ?_; rintro r w2 ⟨rfl, hb2⟩; obtain ⟨hc2, hf2⟩ := bcell hb2; have hz2_0 : w.heap.size < w2.heap.size := lt_below hb2 ltg; have hl2_0 := Nat.le_of_lt hz2_0; have hz2_1 : w.heap.size + 1 < w2.heap.size := lt_below hb2 ltg; have hl2_1 := Nat.le_of_lt hz2_1; have hA2 := bnext (w0 := w) bgo hb2; have hs2 := hA2.size; clear hb2))
  go_loopw [7, 8, 9, 10] (fun t _ _ _ wr => ∃ (k : Nat), k ≤ c ∧ t = .int .i64 ((k : Int) - 1) ∧ C4 w2.heap.size (U k) wr ∧ C4 w.heap.size B wr ∧ C4 (w.heap.size + 1) 0 wr ∧ Below w.heap.size w wr) (fun t _ _ _ _ => (intOf t + 1).toNat)
  case atStart =>
    refine ⟨c, Nat.le_refl _, rfl, ?_, ?_, ?_, bgo⟩
    · rw [hU]; exact C4.new _ _
    · refine ⟨by simp; omega, ?_, ?_, ?_, ?_, ?_, ?_, ?_, ?_⟩ <;> go_simp
    · refine ⟨by simp; omega, ?_, ?_, ?_, ?_, ?_, ?_, ?_, ?_⟩ <;> first | (rw [W4_zero]; go_simp) | go_simp
  case round =>
    obtain ⟨k, hk, rfl, h3, h4, h5, hbw⟩ := hrel
    have hl3 := h3.lt
    have hl4 := h4.lt
    have hl5 := h5.lt
    have hz3 : w.heap.size + 1 < w2.heap.size := by omega
    obtain ⟨_, o0, o1, o2, o3, g0, g1, g2, g3⟩ := id h3
    obtain ⟨_, p0, p1, p2, p3, f0, f1, f2, f3⟩ := id h4
    obtain ⟨_, q0, q1, q2, q3, e0, e1, e2, e3⟩ := id h5
    by_cases hk0 : k = 0
    · subst hk0
      go_wp2
      exact bodyPost_ret (by simp only [results, Tryd.results70]; go_simp) rfl ⟨rfl, bgo⟩
    · obtain ⟨j, rfl⟩ : ∃ j, k = j + 1 := ⟨k - 1, by omega⟩
      have ej : ((j + 1 : Nat) : Int) - 1 = (j : Int) := by omega
      rw [ej]
      have hj : j < c := by omega
      have hj0 : ¬ (j : Int) < 0 := by omega
      have hj1 : (j : Int) ≤ 11 := by omega
      have ds := cs.out j hj
      obtain ⟨x2, x3, x4⟩ := hX.out j
      have de := ce.out j
      have du := cu.out j hj
      have do' := co.out j
      have da := ca.out j hj
      have dD := hD.out j
      have d0 : (0 : Int) ≤ (D j : Int) := by omega
      have d1 : (D j : Int) < 1000 := by omega
      have x0 : (0 : Int) ≤ (X j : Int) := by omega
      have x1 : (X j : Int) < 1024 := by omega
      clear ej dD x3 hL ck cl
      generalize D j = Dj at *
      generalize X j = Xj at *
      generalize S j = Sj at *
      generalize M j = Mj at *
      generalize U (j + 1) = Uj at *
      go_wp2_with (first
        | (go_at_call 45; refine (ds _).mono ?_; rintro r w3 ⟨rfl, hb3⟩; have hn3 := h3.next hb3; have hn4 := h4.next hb3; have hn5 := h5.next hb3; obtain ⟨hc3, hf3⟩ := bcell hb3; have hz3_0 : w.heap.size < w3.heap.size := lt_below hb3 ltg; have hl3_0 := Nat.le_of_lt hz3_0; have hz3_1 : w.heap.size + 1 < w3.heap.size := lt_below hb3 ltg; have hl3_1 := Nat.le_of_lt hz3_1; have hz3_2 : w2.heap.size < w3.heap.size := lt_below hb3 ltg; have hl3_2 := Nat.le_of_lt hz3_2; have hA3 := bnext (w0 := w) bgo hb3; have hs3 := hA3.size; clear hb3)
        | (go_at_call 79; refine (de _).mono ?_; rintro r w4 ⟨rfl, rfl⟩)
        | (go_at_call 59; refine (du _).mono ?_; rintro r w5 ⟨rfl, hb5⟩; obtain ⟨hc5, hf5⟩ := bcell hb5; have hz5_0 : w.heap.size < w5.heap.size := lt_below hb5 ltg; have hl5_0 := Nat.le_of_lt hz5_0; have hz5_1 : w.heap.size + 1 < w5.heap.size := lt_below hb5 ltg; have hl5_1 := Nat.le_of_lt hz5_1; have hz5_2 : w2.heap.size < w5.heap.size := lt_below hb5 ltg; have hl5_2 := Nat.le_of_lt hz5_2; have hA5 := bnext (w0 := w) bgo hb5; have hs5 := hA5.size; clear hb5))
      refine wp_tail 5 (by kernel_rfl) (by kernel_rfl) (by kernel_rfl) (fun _ _ d _ _ h => by cases d <;> exact h) fun hne hcell => ?_
      simp only [List.take_succ_cons, List.take_zero, List.drop_succ_cons, List.drop_zero]
      repeat go_big_quiet_step (fail)
      go_big_quiet_step ((go_at_call 51; exact calls_wd _ bk_next (do' _)))
      repeat go_big_quiet_step (fail)
      go_big_quiet_step ((go_at_call 33; exact calls_wd _ bk_next (da _)))
      refine wpQuiet_nil fun w6 hb6 => ?_
      obtain ⟨hc6, hf6⟩ := bcell hb6; have hz6_0 : w.heap.size < w6.heap.size := lt_below hb6 ltg; have hl6_0 := Nat.le_of_lt hz6_0; have hz6_1 : w.heap.size + 1 < w6.heap.size := lt_below hb6 ltg; have hl6_1 := Nat.le_of_lt hz6_1; have hz6_2 : w2.heap.size < w6.heap.size := lt_below hb6 ltg; have hl6_2 := Nat.le_of_lt hz6_2; have hA6 := bnext (w0 := w) bgo hb6; have hs6 := hA6.size; clear hb6
      go_wp2
      go_roundw
      case rel =>
        refine ⟨j, by omega, by go_num, ?_, ?_, ?_, bgo⟩
        · refine ⟨by simp; omega, ?_, ?_, ?_, ?_, ?_, ?_, ?_, ?_⟩ <;> go_simp
        · refine ⟨by simp; omega, ?_, ?_, ?_, ?_, ?_, ?_, ?_, ?_⟩ <;> go_simp
        · refine ⟨by simp; omega, ?_, ?_, ?_, ?_, ?_, ?_, ?_, ?_⟩ <;> go_simp
      case measure => simp [intOf]
end
theorem p1024 (i : Nat) : (1024 : Nat) ^ i = 2 ^ (10 * i) := by rw [Nat.pow_mul]
theorem dpck_any (C : Nat) (n : Int) (w : World) (hC : C < 2 ^ 256) : Calls Tryd.prog 80 #[A4 C, .int .i64 n] w fun r w' => r = .returned (.tuple #[A4 (dPv C n), .int .i64 (dPe C n)]) ∧ Below w.heap.size w w' := by
  unfold dPv dPe
  by_cases h : 0 ≤ n ∧ n ≤ 11
  · obtain ⟨c, rfl⟩ := Int.eq_ofNat_of_zero_le h.1
    have hc : c ≤ 11 := by omega
    rw [if_pos h, if_pos h, Int.toNat_natCast]
    have hA : ∀ i, C / 1000 ^ i < 2 ^ 256 := fun i => Nat.lt_of_le_of_lt (Nat.div_le_self _ _) hC
    have hL0 := len4_zero (hA c)
    have hL1 : 0 ≤ lenL (W4 (C / 1000 ^ c)) 4 := by
      by_cases h0 : 0 < sizeL (W4 (C / 1000 ^ c)) 4
      · obtain ⟨L, h1, _⟩ := len_bd (W4_words _) h0
        omega
      · unfold lenL; rw [if_pos (by omega)]; exact Int.le_refl _
    refine dpck_w C c w (fun i => C / 1000 ^ i) (fun i => dlP i C) (fun i => C / 1000 ^ i % 1000) (fun i => dlE (C / 1000 ^ i % 1000)) (fun i => dlE (C / 1000 ^ i % 1000) * 2 ^ (10 * i)) (fun i => (((dlP i C + dlE (C / 1000 ^ i % 1000) * 2 ^ (10 * i)) / 2 ^ 256 : Nat) : Int)) (lenL (W4 (C / 1000 ^ c)) 4) hc ?_ ?_ ?_ ?_ ?_ ?_ ?_ ?_ (fun W => len4' _ W) (by simp) rfl _ _ ?_
    · intro W
      have := known_v (c : Int) W
      rw [decide_eq_true h] at this
      exact this
    · intro i hi W
      have := div4 (C / 1000 ^ i) 1000 W (hA i) (by decide) (by decide)
      rw [Nat.div_div_eq_div_mul, ← Nat.pow_succ] at this
      exact this
    · intro i
      exact Nat.mod_lt _ (by decide)
    · intro i W
      exact denc_v _ (Nat.mod_lt _ (by decide)) W
    · intro i
      exact (dl_back _ (Nat.mod_lt _ (by decide))).2
    · intro i W
      have := (dl_back (C / 1000 ^ i % 1000) (Nat.mod_lt _ (by decide))).2
      exact of4 _ W (by omega)
    · intro i hi W
      have h2 := (dl_back (C / 1000 ^ i % 1000) (Nat.mod_lt _ (by decide))).2
      have := shl4 (dlE (C / 1000 ^ i % 1000)) (10 * i) W (Nat.lt_trans h2 (by decide)) (by omega)
      rw [show ((10 * i : Nat) : Int) = 10 * (i : Int) by omega] at this
      exact this
    · intro i hi W
      have e := dlP_snoc i C
      rw [p1024] at e
      have h1 := dlP_256 (i + 1) C (by omega)
      have := add4 (dlP i C) (dlE (C / 1000 ^ i % 1000) * 2 ^ (10 * i)) W (by omega) (by omega)
      rw [show A4 (dlP i C + dlE (C / 1000 ^ i % 1000) * 2 ^ (10 * i)) = A4 (dlP (i + 1) C) by rw [e]] at this
      exact this
    · by_cases hlt : C < 1000 ^ c
      · rw [if_pos hlt, if_pos hlt]
        exact Or.inl ⟨by rw [hL0.2 (Nat.div_eq_of_lt hlt)]; decide, rfl, rfl⟩
      · rw [if_neg hlt, if_neg hlt]
        have h1 : C / 1000 ^ c ≠ 0 := by
          have := (Nat.le_div_iff_mul_le (Nat.pow_pos (n := c) (show 0 < 1000 by decide))).2 (show 1 * 1000 ^ c ≤ C by omega)
          omega
        have h2 : lenL (W4 (C / 1000 ^ c)) 4 ≠ 0 := fun e => h1 (hL0.1 e)
        exact Or.inr ⟨by omega, rfl, rfl⟩
  · rw [if_neg h, if_neg h]
    refine dpck_n C n w fun W => ?_
    have := known_v n W
    rw [decide_eq_false h] at this
    exact this
theorem dupk_any (B : Nat) (n : Int) (w : World) (hB : B < 2 ^ 256) : Calls Tryd.prog 70 #[A4 B, .int .i64 n] w fun r w' => r = .returned (.tuple #[A4 (dUv B n), .int .i64 (dUe B n)]) ∧ Below w.heap.size w w' := by
  unfold dUv dUe
  by_cases h : 0 ≤ n ∧ n ≤ 11
  · obtain ⟨c, rfl⟩ := Int.eq_ofNat_of_zero_le h.1
    have hc : c ≤ 11 := by omega
    rw [if_pos h, if_pos h, Int.toNat_natCast]
    have hk : ∀ W, Calls Tryd.prog 78 #[.int .i64 (c : Int)] W fun r w' => r = .returned (.bool true) ∧ W = w' := fun W => by
      have := known_v (c : Int) W
      rw [decide_eq_true h] at this
      exact this
    have hL := len4_le (k := 10 * c) hB
    rw [← p1024] at hL
    by_cases hlt : B < 1024 ^ c
    · rw [if_pos hlt, if_pos hlt]
      have hU : ∀ k, dlU (c - k) (B / 1024 ^ k) < 1000 ^ 11 := fun k => Nat.lt_of_lt_of_le (dlU_lt _ _) (Nat.pow_le_pow_right (by decide) (by omega))
      have e11 : (1000 : Nat) ^ 11 = 1000000000000000000000000000000000 := by decide
      have e256 : (2 : Nat) ^ 256 = 115792089237316195423570985008687907853269984665640564039457584007913129639936 := by decide
      have := dupk_w B c w (lenL (W4 B) 4) hc hk (fun W => len4' _ W) (fun k => dlU (c - k) (B / 1024 ^ k)) (fun k => B / 1024 ^ k % 1024) (fun k => dlD (B / 1024 ^ k % 1024)) (fun k => B / 2 ^ (10 * k)) (fun k => dlU (c - (k + 1)) (B / 1024 ^ (k + 1)) * 1000) (fun k => (((dlU (c - (k + 1)) (B / 1024 ^ (k + 1)) * 1000 + dlD (B / 1024 ^ k % 1024)) / 2 ^ 256 : Nat) : Int)) (fun k => ((dlU (c - (k + 1)) (B / 1024 ^ (k + 1)) * 1000 / 2 ^ 256 : Nat) : Int)) (fun k hk W => ?_) (fun k => ?_) (fun k W => ?_) (fun k => ?_) (fun k hk W => ?_) (fun k W => ?_) (fun k hk W => ?_) (by rw [Nat.sub_self]; rfl) (by have := hL.2 hlt; omega)
      · simp only [Nat.sub_zero, Nat.pow_zero, Nat.div_one] at this
        exact this
      · have := shr4 B (10 * k) W hB (by omega)
        rw [show ((10 * k : Nat) : Int) = 10 * (k : Int) by omega] at this
        exact this
      · refine ⟨?_, Nat.mod_lt _ (by decide), (W4_words _ 0).1⟩
        unfold W4
        rw [← p1024, Nat.mul_zero, Nat.pow_zero, Nat.div_one]
        omega
      · exact ddcd_v _ (Nat.mod_lt _ (by decide)) W
      · exact (dl_means _ (Nat.mod_lt _ (by decide))).1
      · have h1 := hU (k + 1)
        exact mul4 _ 1000 W (by omega) (by decide)
      · have := (dl_means (B / 1024 ^ k % 1024) (Nat.mod_lt _ (by decide))).1
        exact of4 _ W (by omega)
      · have h1 := hU (k + 1)
        have h2 := (dl_means (B / 1024 ^ k % 1024) (Nat.mod_lt _ (by decide))).1
        have e := dlU_step (c - (k + 1)) (B / 1024 ^ k)
        rw [Nat.div_div_eq_div_mul, ← Nat.pow_succ, show c - (k + 1) + 1 = c - k by omega] at e
        have := add4 (dlU (c - (k + 1)) (B / 1024 ^ (k + 1)) * 1000) (dlD (B / 1024 ^ k % 1024)) W (by omega) (by omega)
        rw [show A4 (dlU (c - (k + 1)) (B / 1024 ^ (k + 1)) * 1000 + dlD (B / 1024 ^ k % 1024)) = A4 (dlU (c - k) (B / 1024 ^ k)) by rw [e]] at this
        exact this
    · rw [if_neg hlt, if_neg hlt]
      exact dupk_l B c w (lenL (W4 B) 4) hc hk (fun W => len4' _ W) (by
        have : ¬ lenL (W4 B) 4 ≤ ((10 * c : Nat) : Int) := fun q => hlt (hL.1 q)
        omega)
  · rw [if_neg h, if_neg h]
    refine dupk_n B n w fun W => ?_
    have := known_v n W
    rw [decide_eq_false h] at this
    exact this
end Go.Proofs.YtgknbdehlmlipaaDoor

namespace Go.Proofs.YtgknbdehlmlipaaDoor
open Go.RowKit
attribute [local irreducible] W4
section
variable (dn : Bool) (g t bl : Int) (wo co pa : Nat) (le mo : Int) (w : World)
set_option maxHeartbeats 2000000 in
theorem split_w (B Ab Sh Fr : Nat) (S E cr : Int)
    (c1 : ∀ W, Calls Tryd.prog 45 #[A4 B, .int .i64 t] W fun r w' => r = .returned (A4 Ab) ∧ Below W.heap.size W w')
    (c2 : ∀ W, Calls Tryd.prog 47 #[A4 Ab, .int .i64 t] W fun r w' => r = .returned (A4 Sh) ∧ Below W.heap.size W w')
    (c3 : ∀ W, Calls Tryd.prog 46 #[A4 B, A4 Sh] W fun r w' => r = .returned (.tuple #[A4 Fr, .int .u64 cr]) ∧ Below W.heap.size W w')
    (c4 : ∀ W, Calls Tryd.prog 44 #[A4 Ab, .int .i64 g] W fun r w' => r = .returned (.int .u64 S) ∧ Below W.heap.size W w')
    (c5 : ∀ W, Calls Tryd.prog 68 #[.int .u64 (W4 Ab 0), .int .i64 g] W fun r w' => r = .returned (.int .u64 E) ∧ Below W.heap.size W w') :
    Calls Tryd.prog 53 #[LD dn g t bl wo co pa le mo, A4 B] w fun r w' => r = .returned (.tuple #[.bool (S == 1), .int .u64 E, A4 Fr]) ∧ Below w.heap.size w w' := by
  have hsm := cell_set_map
  go_enter Tryd.func53, Tryd.ntmps53
  go_wp2_with (go_at_call 45; refine (c1 _).mono ?_; rintro r w1 ⟨rfl, hb1⟩; obtain ⟨hc1, hf1⟩ := bcell hb1; have hz1_0 : w.heap.size < w1.heap.size := lt_below hb1 ltg; have hl1_0 := Nat.le_of_lt hz1_0; have hz1_1 : w.heap.size + 1 < w1.heap.size := lt_below hb1 ltg; have hl1_1 := Nat.le_of_lt hz1_1; have hz1_2 : w.heap.size + 1 + 1 < w1.heap.size := lt_below hb1 ltg; have hl1_2 := Nat.le_of_lt hz1_2; have hA1 := bnext (w0 := w) bgo hb1; have hs1 := hA1.size; clear hb1)
  refine wp_tail 6 (by kernel_rfl) (by kernel_rfl) (by kernel_rfl) (fun _ _ d _ _ h => by cases d <;> exact h) fun hne hcell => ?_
  simp only [List.take_succ_cons, List.take_zero, List.drop_succ_cons, List.drop_zero]
  repeat go_big_quiet_step (fail)
  go_big_quiet_step ((go_at_call 47; exact calls_wd _ bk_next (c2 _)))
  repeat go_big_quiet_step (fail)
  go_big_quiet_step ((go_at_call 46; exact calls_wd _ bk_next (c3 _)))
  repeat go_big_quiet_step (fail)
  refine wpQuiet_nil fun w2 hb2 => ?_
  obtain ⟨hc2, hf2⟩ := bcell hb2; have hz2_0 : w.heap.size < w2.heap.size := lt_below hb2 ltg; have hl2_0 := Nat.le_of_lt hz2_0; have hz2_1 : w.heap.size + 1 < w2.heap.size := lt_below hb2 ltg; have hl2_1 := Nat.le_of_lt hz2_1; have hz2_2 : w.heap.size + 1 + 1 < w2.heap.size := lt_below hb2 ltg; have hl2_2 := Nat.le_of_lt hz2_2; have hz2_3 : w1.heap.size < w2.heap.size := lt_below hb2 ltg; have hl2_3 := Nat.le_of_lt hz2_3; have hA2 := bnext (w0 := w) bgo hb2; have hs2 := hA2.size; clear hb2
  go_wp2
  refine wp_tail 13 (by kernel_rfl) (by kernel_rfl) (by kernel_rfl) (fun _ _ d _ _ h => by cases d <;> exact h) fun hne hcell => ?_
  simp only [List.take_succ_cons, List.take_zero, List.drop_succ_cons, List.drop_zero]
  repeat go_big_quiet_step (fail)
  go_big_quiet_step ((go_at_call 44; exact calls_wd _ bk_next (c4 _)))
  repeat go_big_quiet_step (fail)
  go_big_quiet_step ((go_at_call 68; exact calls_wd _ bk_next (c5 _)))
  repeat go_big_quiet_step (fail)
  refine wpQuiet_nil fun w3 hb3 => ?_
  obtain ⟨hc3, hf3⟩ := bcell hb3; have hz3_0 : w.heap.size < w3.heap.size := lt_below hb3 ltg; have hl3_0 := Nat.le_of_lt hz3_0; have hz3_1 : w.heap.size + 1 < w3.heap.size := lt_below hb3 ltg; have hl3_1 := Nat.le_of_lt hz3_1; have hz3_2 : w.heap.size + 1 + 1 < w3.heap.size := lt_below hb3 ltg; have hl3_2 := Nat.le_of_lt hz3_2; have hz3_3 : w1.heap.size < w3.heap.size := lt_below hb3 ltg; have hl3_3 := Nat.le_of_lt hz3_3; have hA3 := bnext (w0 := w) bgo hb3; have hs3 := hA3.size; clear hb3
  go_wp2
  exact bodyPost_ret (v := .tuple #[.bool (S == 1), .int .u64 E, A4 Fr]) (by simp only [results, Tryd.results53]; go_simp) rfl ⟨rfl, bgo⟩
end
section
variable (dn : Bool) (g t bl : Int) (wo co pa : Nat) (le mo : Int) (w : World) (E0 E : Int) (s : Bool) (F En Sh J : Nat) (cr : Int)
  (c49 : ∀ w, Calls Tryd.prog 51 #[.int .u64 E] w fun x w' => x = .returned (A4 En) ∧ Below w.heap.size w w')
  (c45 : ∀ w, Calls Tryd.prog 47 #[A4 En, .int .i64 t] w fun x w' => x = .returned (A4 Sh) ∧ Below w.heap.size w w')
  (c22 : ∀ w, Calls Tryd.prog 33 #[A4 Sh, A4 F] w fun x w' => x = .returned (.tuple #[A4 J, .int .u64 cr]) ∧ Below w.heap.size w w')
include c49 c45 c22
set_option maxHeartbeats 2000000 in
theorem djoin_n : Calls Tryd.prog 72 #[LD dn g t bl wo co pa le mo, .bool false, .int .u64 E, A4 F] w fun x w' => x = .returned (A4 J) ∧ Below w.heap.size w w' := by
  have hsm := cell_set_map
  go_enter Tryd.func72, Tryd.ntmps72
  go_wp2
  refine wp_made 7 10 9 #[.int .u64 0, .int .u64 0, .int .u64 0, .int .u64 0] (by kernel_rfl) (by kernel_rfl) (by kernel_rfl) rfl (fun oa hoa a w => ?_) (by kernel_rfl) (by kernel_rfl) rfl rfl (fun _ _ d _ _ h => by cases d <;> exact h) ?_
  · cases hoa; exact ⟨23, by simp [go_sem]⟩
  apply Exists.intro
  refine ⟨fun al hne hcell => ?_, fun w1 hb1 => ?_, fun g w1 hb1 hg0 hg1 hg2 hg3 => ?_⟩
  · simp only [List.take_succ_cons, List.take_zero]
    repeat go_big_quiet_step (fail)
    go_big_quiet_step ((go_at_call 51; exact calls_wd _ al_next (c49 _)))
    repeat go_big_quiet_step (fail)
    go_big_quiet_step ((go_at_call 47; exact calls_wd _ al_next (c45 _)))
    repeat go_big_quiet_step (fail)
    go_big_quiet_step ((go_at_call 33; exact calls_wd _ al_next (c22 _)))
    exact wpQuiet_nil rfl
  · simp only [List.drop_succ_cons, List.drop_zero]
    obtain ⟨hc1, hf1⟩ := bcell hb1; have hz1_0 : w.heap.size < w1.heap.size := lt_below hb1 ltg; have hl1_0 := Nat.le_of_lt hz1_0; have hz1_1 : w.heap.size + 1 < w1.heap.size := lt_below hb1 ltg; have hl1_1 := Nat.le_of_lt hz1_1; have hz1_2 : w.heap.size + 1 + 1 < w1.heap.size := lt_below hb1 ltg; have hl1_2 := Nat.le_of_lt hz1_2; have hA1 := bnext (w0 := w) bgo hb1; have hs1 := hA1.size; clear hb1
    go_wp2
    exact bodyPost_ret (v := A4 J) (by simp only [results, Tryd.results72]; go_simp) rfl ⟨rfl, bgo⟩
  · simp only [List.drop_succ_cons, List.drop_zero, Nat.reduceSub, List.eraseIdx_cons_succ, List.eraseIdx_cons_zero]
    simp only [World.size_alloc] at hg0
    have hz0 : g ≠ w.heap.size := by omega
    have hz1 : g ≠ w.heap.size + 1 := by omega
    have hz2 : g ≠ w.heap.size + 1 + 1 := by omega
    obtain ⟨hc1, hf1⟩ := bcell hb1; have hz1_0 : w.heap.size < w1.heap.size := lt_below hb1 ltg; have hl1_0 := Nat.le_of_lt hz1_0; have hz1_1 : w.heap.size + 1 < w1.heap.size := lt_below hb1 ltg; have hl1_1 := Nat.le_of_lt hz1_1; have hz1_2 : w.heap.size + 1 + 1 < w1.heap.size := lt_below hb1 ltg; have hl1_2 := Nat.le_of_lt hz1_2; have hA1 := bnext (w0 := w) bgo hb1; have hs1 := hA1.size; clear hb1
    go_wp2
    exact bodyPost_ret (v := A4 J) (by simp only [results, Tryd.results72]; go_simp) rfl ⟨rfl, bgo⟩
set_option maxHeartbeats 2000000 in
theorem djoin_s (n : Nat) (H : Int) (hg : g = (n : Int)) (hn : n ≤ 40) (hH : (2 : Int) ^ n = H) (hH0 : 1 ≤ H) (hH1 : H ≤ 1099511627776) (hE : bits .or .u64 E0 H = E) :
    Calls Tryd.prog 72 #[LD dn g t bl wo co pa le mo, .bool true, .int .u64 E0, A4 F] w fun x w' => x = .returned (A4 J) ∧ Below w.heap.size w w' := by
  have hsm := cell_set_map
  subst hg
  have hn0 : (0 : Int) ≤ (n : Int) := by omega
  have hn1 : (n : Int) ≤ 40 := by omega
  go_enter Tryd.func72, Tryd.ntmps72
  go_wp2
  refine wp_made 7 10 9 #[.int .u64 0, .int .u64 0, .int .u64 0, .int .u64 0] (by kernel_rfl) (by kernel_rfl) (by kernel_rfl) rfl (fun oa hoa a w => ?_) (by kernel_rfl) (by kernel_rfl) rfl rfl (fun _ _ d _ _ h => by cases d <;> exact h) ?_
  · cases hoa; exact ⟨23, by simp [go_sem]⟩
  apply Exists.intro
  refine ⟨fun al hne hcell => ?_, fun w1 hb1 => ?_, fun g w1 hb1 hg0 hg1 hg2 hg3 => ?_⟩
  · simp only [List.take_succ_cons, List.take_zero]
    repeat go_big_quiet_step (fail)
    go_big_quiet_step ((go_at_call 51; exact calls_wd _ al_next (c49 _)))
    repeat go_big_quiet_step (fail)
    go_big_quiet_step ((go_at_call 47; exact calls_wd _ al_next (c45 _)))
    repeat go_big_quiet_step (fail)
    go_big_quiet_step ((go_at_call 33; exact calls_wd _ al_next (c22 _)))
    exact wpQuiet_nil rfl
  · simp only [List.drop_succ_cons, List.drop_zero]
    obtain ⟨hc1, hf1⟩ := bcell hb1; have hz1_0 : w.heap.size < w1.heap.size := lt_below hb1 ltg; have hl1_0 := Nat.le_of_lt hz1_0; have hz1_1 : w.heap.size + 1 < w1.heap.size := lt_below hb1 ltg; have hl1_1 := Nat.le_of_lt hz1_1; have hz1_2 : w.heap.size + 1 + 1 < w1.heap.size := lt_below hb1 ltg; have hl1_2 := Nat.le_of_lt hz1_2; have hA1 := bnext (w0 := w) bgo hb1; have hs1 := hA1.size; clear hb1
    go_wp2
    exact bodyPost_ret (v := A4 J) (by simp only [results, Tryd.results72]; go_simp) rfl ⟨rfl, bgo⟩
  · simp only [List.drop_succ_cons, List.drop_zero, Nat.reduceSub, List.eraseIdx_cons_succ, List.eraseIdx_cons_zero]
    simp only [World.size_alloc] at hg0
    have hz0 : g ≠ w.heap.size := by omega
    have hz1 : g ≠ w.heap.size + 1 := by omega
    have hz2 : g ≠ w.heap.size + 1 + 1 := by omega
    obtain ⟨hc1, hf1⟩ := bcell hb1; have hz1_0 : w.heap.size < w1.heap.size := lt_below hb1 ltg; have hl1_0 := Nat.le_of_lt hz1_0; have hz1_1 : w.heap.size + 1 < w1.heap.size := lt_below hb1 ltg; have hl1_1 := Nat.le_of_lt hz1_1; have hz1_2 : w.heap.size + 1 + 1 < w1.heap.size := lt_below hb1 ltg; have hl1_2 := Nat.le_of_lt hz1_2; have hA1 := bnext (w0 := w) bgo hb1; have hs1 := hA1.size; clear hb1
    go_wp2
    exact bodyPost_ret (v := A4 J) (by simp only [results, Tryd.results72]; go_simp) rfl ⟨rfl, bgo⟩
end
set_option maxHeartbeats 1000000 in
theorem nought_v (A B : Nat) (w : World) (hA : A < 2 ^ 256) (hB : B < 2 ^ 256) : Calls Tryd.prog 56 #[A4 A, A4 B] w fun r w' => r = .returned (A4 (if A < B then A else 0)) ∧ Below w.heap.size w w' := by
  have c := fun W => cmp4 A B W hA hB
  have hsm := cell_set_map
  by_cases h : A < B
  · rw [if_pos h]
    rw [show sgn (A : Int) (B : Int) = -1 by unfold sgn; rw [if_pos (by omega)]] at c
    clear hA hB h
    go_enter Tryd.func56, Tryd.ntmps56
    go_wp2_with (go_at_call 69; refine (c _).mono ?_; rintro r w1 ⟨rfl, hb1⟩; obtain ⟨hc1, hf1⟩ := bcell hb1; have hz1_0 : w.heap.size < w1.heap.size := lt_below hb1 ltg; have hl1_0 := Nat.le_of_lt hz1_0; have hz1_1 : w.heap.size + 1 < w1.heap.size := lt_below hb1 ltg; have hl1_1 := Nat.le_of_lt hz1_1; have hz1_2 : w.heap.size + 1 + 1 < w1.heap.size := lt_below hb1 ltg; have hl1_2 := Nat.le_of_lt hz1_2; have hA1 := bnext (w0 := w) bgo hb1; have hs1 := hA1.size; clear hb1)
    exact bodyPost_ret (v := A4 A) (by simp only [results, Tryd.results56]; go_simp) rfl ⟨rfl, bgo⟩
  · rw [if_neg h]
    have hs : 0 ≤ sgn (A : Int) (B : Int) := by unfold sgn; rw [if_neg (by omega)]; split <;> decide
    generalize sgn (A : Int) (B : Int) = q at *
    clear hA hB h
    go_enter Tryd.func56, Tryd.ntmps56
    go_wp2_with (go_at_call 69; refine (c _).mono ?_; rintro r w1 ⟨rfl, hb1⟩; obtain ⟨hc1, hf1⟩ := bcell hb1; have hz1_0 : w.heap.size < w1.heap.size := lt_below hb1 ltg; have hl1_0 := Nat.le_of_lt hz1_0; have hz1_1 : w.heap.size + 1 < w1.heap.size := lt_below hb1 ltg; have hl1_1 := Nat.le_of_lt hz1_1; have hz1_2 : w.heap.size + 1 + 1 < w1.heap.size := lt_below hb1 ltg; have hl1_2 := Nat.le_of_lt hz1_2; have hA1 := bnext (w0 := w) bgo hb1; have hs1 := hA1.size; clear hb1)
    exact bodyPost_ret (v := A4 0) (by rw [Z4_eq]; simp only [results, Tryd.results56]; go_simp) rfl ⟨rfl, bgo⟩
set_option maxHeartbeats 1000000 in
theorem dten_w (n : Nat) (w : World) (P : Nat → Nat) (cr : Nat → Int) (hn : n ≤ 60) (hP : P 0 = 1)
    (c1 : ∀ W, Calls Tryd.prog 51 #[.int .u64 1] W fun r w' => r = .returned (A4 1) ∧ Below W.heap.size W w')
    (cm : Hid (∀ i W, Calls Tryd.prog 59 #[A4 (P i), .int .u64 10] W fun r w' => r = .returned (.tuple #[A4 (P (i + 1)), .int .u64 (cr i)]) ∧ Below W.heap.size W w')) :
    Calls Tryd.prog 67 #[.int .i64 (n : Int)] w fun r w' => r = .returned (A4 (P n)) ∧ Below w.heap.size w w' := by
  have hsm := cell_set_map
  go_enter Tryd.func67, Tryd.ntmps67
  go_wp2_with (go_at_call 51; refine (c1 _).mono ?_; rintro r w1 ⟨rfl, hb1⟩; obtain ⟨hc1, hf1⟩ := bcell hb1; have hz1_0 : w.heap.size < w1.heap.size := lt_below hb1 ltg; have hl1_0 := Nat.le_of_lt hz1_0; have hA1 := bnext (w0 := w) bgo hb1; have hs1 := hA1.size; clear hb1)
  go_loopw [6, 7, 8, 9, 10, 11, 12, 13] (fun t _ _ _ _ _ _ _ wr => ∃ (i : Nat), i ≤ n ∧ t = .int .i64 (i : Int) ∧ C4 w1.heap.size (P i) wr ∧ C4 w.heap.size 0 wr ∧ Below w.heap.size w wr) (fun t _ _ _ _ _ _ _ _ => n - (intOf t).toNat)
  case atStart =>
    refine ⟨0, Nat.zero_le _, rfl, ?_, ?_, bgo⟩
    · rw [hP]; refine ⟨by simp, ?_, ?_, ?_, ?_, ?_, ?_, ?_, ?_⟩ <;> go_simp
    · refine ⟨by simp; omega, ?_, ?_, ?_, ?_, ?_, ?_, ?_, ?_⟩ <;> first | (rw [W4_zero]; go_simp) | go_simp
  case round =>
    obtain ⟨i, hi, rfl, h3, h4, hbw⟩ := hrel
    have hl3 := h3.lt
    have hl4 := h4.lt
    obtain ⟨_, o0, o1, o2, o3, g0, g1, g2, g3⟩ := id h3
    obtain ⟨_, p0, p1, p2, p3, f0, f1, f2, f3⟩ := id h4
    by_cases hic : i < n
    · have hl : (i : Int) < (n : Int) := by omega
      have hl' : (i : Int) ≤ 60 := by omega
      have dm := cm.out i
      generalize P i = Pi at *
      go_wp2_with (go_at_call 59; refine (dm _).mono ?_; rintro r w2 ⟨rfl, hb2⟩; have hn3 := h3.next hb2; have hn4 := h4.next hb2; obtain ⟨hc2, hf2⟩ := bcell hb2; have hz2_0 : w.heap.size < w2.heap.size := lt_below hb2 ltg; have hl2_0 := Nat.le_of_lt hz2_0; have hz2_1 : w1.heap.size < w2.heap.size := lt_below hb2 ltg; have hl2_1 := Nat.le_of_lt hz2_1; have hA2 := bnext (w0 := w) bgo hb2; have hs2 := hA2.size; clear hb2)
      go_roundw
      case rel => exact ⟨i + 1, by omega, by go_num, hn3.put, hn4.other (by omega), bgo⟩
      case measure => simp [intOf]; omega
    · have hl : ¬ (i : Int) < (n : Int) := by omega
      obtain rfl : i = n := by omega
      go_wp2
      exact bodyPost_ret (v := A4 (P i)) (by simp only [results, Tryd.results67]; go_simp) rfl ⟨rfl, bgo⟩
theorem dten_v (n : Nat) (w : World) (hn : n ≤ 60) : Calls Tryd.prog 67 #[.int .i64 (n : Int)] w fun r w' => r = .returned (A4 (10 ^ n)) ∧ Below w.heap.size w w' := by
  refine (dten_w n w (fun i => 10 ^ i % 2 ^ 256) (fun i => ((10 ^ i % 2 ^ 256 * 10 / 2 ^ 256 : Nat) : Int)) hn rfl (fun W => of4 1 W (by decide)) ?_).mono ?_
  · show ∀ _, _
    intro i W
    refine (mul4 (10 ^ i % 2 ^ 256) 10 W (Nat.mod_lt _ (by decide)) (by decide)).mono ?_
    rintro r w' ⟨rfl, hb⟩
    refine ⟨?_, hb⟩
    show Ending.returned (.tuple #[A4 (10 ^ i % 2 ^ 256 * 10), _]) = Ending.returned (.tuple #[A4 (10 ^ (i + 1) % 2 ^ 256), _])
    rw [A4_mod (10 ^ (i + 1)), ← A4_mod (10 ^ i % 2 ^ 256 * 10), Nat.mod_mul_mod, A4_mod, show 10 ^ (i + 1) = 10 ^ i * 10 from Nat.pow_succ _ _]
  · rintro r w' ⟨rfl, hb⟩
    refine ⟨?_, hb⟩
    show Ending.returned (A4 (10 ^ n % 2 ^ 256)) = _
    rw [A4_mod]
section
variable (g t bl : Int) (wo co pa : Nat) (le mo : Int) (w : World)
set_option maxHeartbeats 1000000 in
theorem read_p (R : Nat) : Calls Tryd.prog 57 #[LD false g t bl wo co pa le mo, A4 R] w fun r w' => r = .returned (A4 R) ∧ Below w.heap.size w w' := by
  have hsm := cell_set_map
  go_enter Tryd.func57, Tryd.ntmps57
  go_wp2
  exact bodyPost_ret (v := A4 R) (by simp only [results, Tryd.results57]; go_simp) rfl ⟨rfl, bgo⟩
set_option maxHeartbeats 1000000 in
theorem read_d (R U : Nat) (E j : Int) (ht0 : 0 ≤ t) (ht1 : t ≤ 256) (hj : t / 10 = j)
    (c : ∀ W, Calls Tryd.prog 70 #[A4 R, .int .i64 j] W fun r w' => r = .returned (.tuple #[A4 U, .int .i64 E]) ∧ Below W.heap.size W w') :
    Calls Tryd.prog 57 #[LD true g t bl wo co pa le mo, A4 R] w fun r w' => r = .returned (A4 U) ∧ Below w.heap.size w w' := by
  have hsm := cell_set_map
  go_enter Tryd.func57, Tryd.ntmps57
  go_wp2_with (go_at_call 70; refine (c _).mono ?_; rintro r w1 ⟨rfl, hb1⟩; obtain ⟨hc1, hf1⟩ := bcell hb1; have hz1_0 : w.heap.size < w1.heap.size := lt_below hb1 ltg; have hl1_0 := Nat.le_of_lt hz1_0; have hz1_1 : w.heap.size + 1 < w1.heap.size := lt_below hb1 ltg; have hl1_1 := Nat.le_of_lt hz1_1; have hz1_2 : w.heap.size + 1 + 1 < w1.heap.size := lt_below hb1 ltg; have hl1_2 := Nat.le_of_lt hz1_2; have hA1 := bnext (w0 := w) bgo hb1; have hs1 := hA1.size; clear hb1)
  exact bodyPost_ret (v := A4 U) (by simp only [results, Tryd.results57]; go_simp) rfl ⟨rfl, bgo⟩
set_option maxHeartbeats 1000000 in
theorem write_p (R : Nat) : Calls Tryd.prog 74 #[LD false g t bl wo co pa le mo, A4 R] w fun r w' => r = .returned (A4 R) ∧ Below w.heap.size w w' := by
  have hsm := cell_set_map
  go_enter Tryd.func74, Tryd.ntmps74
  go_wp2
  exact bodyPost_ret (v := A4 R) (by simp only [results, Tryd.results74]; go_simp) rfl ⟨rfl, bgo⟩
set_option maxHeartbeats 1000000 in
theorem write_d (R U : Nat) (E j : Int) (ht0 : 0 ≤ t) (ht1 : t ≤ 256) (hj : t / 10 = j)
    (c : ∀ W, Calls Tryd.prog 80 #[A4 R, .int .i64 j] W fun r w' => r = .returned (.tuple #[A4 U, .int .i64 E]) ∧ Below W.heap.size W w') :
    Calls Tryd.prog 74 #[LD true g t bl wo co pa le mo, A4 R] w fun r w' => r = .returned (A4 U) ∧ Below w.heap.size w w' := by
  have hsm := cell_set_map
  go_enter Tryd.func74, Tryd.ntmps74
  go_wp2_with (go_at_call 80; refine (c _).mono ?_; rintro r w1 ⟨rfl, hb1⟩; obtain ⟨hc1, hf1⟩ := bcell hb1; have hz1_0 : w.heap.size < w1.heap.size := lt_below hb1 ltg; have hl1_0 := Nat.le_of_lt hz1_0; have hz1_1 : w.heap.size + 1 < w1.heap.size := lt_below hb1 ltg; have hl1_1 := Nat.le_of_lt hz1_1; have hz1_2 : w.heap.size + 1 + 1 < w1.heap.size := lt_below hb1 ltg; have hl1_2 := Nat.le_of_lt hz1_2; have hA1 := bnext (w0 := w) bgo hb1; have hs1 := hA1.size; clear hb1)
  exact bodyPost_ret (v := A4 U) (by simp only [results, Tryd.results74]; go_simp) rfl ⟨rfl, bgo⟩
end
end Go.Proofs.YtgknbdehlmlipaaDoor
