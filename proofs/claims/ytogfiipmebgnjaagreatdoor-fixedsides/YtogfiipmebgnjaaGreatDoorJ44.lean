/-
  Texts that the proof leans on, joined: Fy.
-/
import Derived.Test.YtogfiipmebgnjaaGreatDoorJ40
import Derived.Test.YtogfiipmebgnjaaGreatDoorJ36
import Derived.Test.YtogfiipmebgnjaaGreatDoorJ1
set_option linter.unusedVariables false
set_option linter.unusedSectionVars false
set_option linter.unusedSimpArgs false
set_option maxRecDepth 20000
namespace Go.Proofs.YtogfiipmebgnjaaGreatDoor
open Go.RowKit

def tvT (T : Nat → List UInt8) (j i : Nat) : List UInt8 := if i < j then T i else []
/-- the first j of the five texts lie in the array (block h + 1); the pattern (block w.heap.size) and the datum (block h) stay -/
structure Sd5 (w : World) (V : Nat) (s : Bool) (h : Nat) (T : Nat → List UInt8) (j : Nat) (wr : World) : Prop where
  bel : Below w.heap.size w wr
  lt : h + 1 < wr.heap.size
  ge : w.heap.size < h
  cel : ∀ i, i < 5 → wr.cell? ⟨h + 1, i, none⟩ = some (.string (B (tvT T j i)))
  fro : ∀ i, i < 5 → wr.frozen? ⟨h + 1, i, none⟩ = false
  pat : ∀ i, i < 4 → wr.cell? ⟨w.heap.size, i, none⟩ = some (.int .u64 (W4 V i))
  sgn : wr.cell? ⟨h, 1, none⟩ = some (.bool s)
theorem Sd5.next {w : World} {V : Nat} {s : Bool} {h : Nat} {T : Nat → List UInt8} {j : Nat} {wr w' : World} (H : Sd5 w V s h T j wr) (hb : Below wr.heap.size wr w') : Sd5 w V s h T j w' := by
  obtain ⟨h1, h2, h3, h4, h5, h6, h7⟩ := H
  obtain ⟨hc, hf⟩ := bcell hb
  have hs := hb.size
  exact ⟨bnx h1 hb, by omega, h3, fun i hi => (hc _ _ h2).trans (h4 i hi), fun i hi => (hf _ _ h2).trans (h5 i hi), fun i hi => (hc _ _ (by omega)).trans (h6 i hi), (hc _ _ (by omega)).trans h7⟩
theorem Sd5.set {w : World} {V : Nat} {s : Bool} {h : Nat} {T : Nat → List UInt8} {j : Nat} {wr : World} (H : Sd5 w V s h T j wr) (hj : j < 5) : Sd5 w V s h T (j + 1) (wr.setCell ⟨h + 1, j, none⟩ (.string (B (T j)))) := by
  obtain ⟨h1, h2, h3, h4, h5, h6, h7⟩ := H
  refine ⟨bgo, by simpa using h2, h3, fun i hi => ?_, fun i hi => ?_, fun i hi => ?_, ?_⟩
  · by_cases e : j = i
    · subst e
      rw [cell_set (h4 j hi)]
      unfold tvT
      rw [if_pos (by omega)]
    · rw [cell_set_ne e, h4 i hi]
      unfold tvT
      by_cases e2 : i < j
      · rw [if_pos e2, if_pos (by omega)]
      · rw [if_neg e2, if_neg (by omega)]
  · have := h5 i hi
    simpa [go_sem] using this
  · rw [World.cell?_setCell_far _ _ _ _ (by show h + 1 ≠ w.heap.size; omega)]
    exact h6 i hi
  · rw [World.cell?_setCell_far _ _ _ _ (by show h + 1 ≠ h; omega)]
    exact h7
attribute [local irreducible] W4
section
variable (n cnt : Int) (V : Nat) (c : Int) (s g : Bool) (x : Int) (k : Nat) (w : World) (hT : Tab w) (hT10 : Tb10 w)
  (c8 : ∀ W, Below w.heap.size w W → Calls Tryz.prog 8 #[] W fun r w' => r = .returned (.bool true) ∧ Below W.heap.size W w')
include hT hT10 c8
set_option maxHeartbeats 2000000 in
theorem sd10_n (b : Bool) (hb : b = false ∨ cnt < 1 ∨ 100 < cnt) (c13 : ∀ W, Calls Tryz.prog 13 #[.int .i64 n, A4 V] W fun r w' => r = .returned (.tuple #[DV c s g x k, .bool b]) ∧ Below W.heap.size W w') :
    Calls Tryz.prog 7 #[.int .i64 n, .int .i64 cnt, A4 V] w fun r w' => r = .returned (.bool true) ∧ Below w.heap.size w w' := by
  have hsm := cell_set_map
  unfold DV A4 at *
  cases b with
  | false =>
    clear hb
    go_enter Tryz.func7, Tryz.ntmps7
    go_wp2_with (first
      | (go_at_call 8; refine (c8 _ bgo).mono ?_; rintro r w1 ⟨rfl, hb1⟩; obtain ⟨hc1, hf1⟩ := bcell hb1; have hz1_0 : w.heap.size < w1.heap.size := lt_below hb1 ltg; have hl1_0 := Nat.le_of_lt hz1_0; have hA1 := bnext (w0 := w) bgo hb1; have hs1 := hA1.size; clear hb1)
      | (go_at_call 13; refine (c13 _).mono ?_; rintro r w2 ⟨rfl, hb2⟩; obtain ⟨hc2, hf2⟩ := bcell hb2; have hz2_0 : w.heap.size < w2.heap.size := lt_below hb2 ltg; have hl2_0 := Nat.le_of_lt hz2_0; have hA2 := bnext (w0 := w) bgo hb2; have hs2 := hA2.size; clear hb2))
    go_ret
    exact ⟨rfl, bgo⟩
  | true =>
    by_cases h1 : cnt < 1
    · clear hb
      go_enter Tryz.func7, Tryz.ntmps7
      go_wp2_with (first
        | (go_at_call 8; refine (c8 _ bgo).mono ?_; rintro r w1 ⟨rfl, hb1⟩; obtain ⟨hc1, hf1⟩ := bcell hb1; have hz1_0 : w.heap.size < w1.heap.size := lt_below hb1 ltg; have hl1_0 := Nat.le_of_lt hz1_0; have hA1 := bnext (w0 := w) bgo hb1; have hs1 := hA1.size; clear hb1)
        | (go_at_call 13; refine (c13 _).mono ?_; rintro r w2 ⟨rfl, hb2⟩; obtain ⟨hc2, hf2⟩ := bcell hb2; have hz2_0 : w.heap.size < w2.heap.size := lt_below hb2 ltg; have hl2_0 := Nat.le_of_lt hz2_0; have hA2 := bnext (w0 := w) bgo hb2; have hs2 := hA2.size; clear hb2))
      go_ret
      exact ⟨rfl, bgo⟩
    · have h2 : 100 < cnt := by
        rcases hb with h | h | h
        · cases h
        · exact absurd h h1
        · exact h
      clear hb
      go_enter Tryz.func7, Tryz.ntmps7
      go_wp2_with (first
        | (go_at_call 8; refine (c8 _ bgo).mono ?_; rintro r w1 ⟨rfl, hb1⟩; obtain ⟨hc1, hf1⟩ := bcell hb1; have hz1_0 : w.heap.size < w1.heap.size := lt_below hb1 ltg; have hl1_0 := Nat.le_of_lt hz1_0; have hA1 := bnext (w0 := w) bgo hb1; have hs1 := hA1.size; clear hb1)
        | (go_at_call 13; refine (c13 _).mono ?_; rintro r w2 ⟨rfl, hb2⟩; obtain ⟨hc2, hf2⟩ := bcell hb2; have hz2_0 : w.heap.size < w2.heap.size := lt_below hb2 ltg; have hl2_0 := Nat.le_of_lt hz2_0; have hA2 := bnext (w0 := w) bgo hb2; have hs2 := hA2.size; clear hb2))
      go_ret
      exact ⟨rfl, bgo⟩
set_option maxHeartbeats 8000000 in
theorem sd10_k (h1 : 1 ≤ cnt) (h2 : cnt ≤ 100) (c13 : ∀ W, Calls Tryz.prog 13 #[.int .i64 n, A4 V] W fun r w' => r = .returned (.tuple #[DV c s g x k, .bool true]) ∧ Below W.heap.size W w')
    (T : Nat → List UInt8) (bb : Nat → Bool) (c9 : ∀ (i : Nat) W, i < 5 → Tab W → Tb10 W → Calls Tryz.prog 9 #[.int .i64 n, .int .i64 (i : Int), .int .i64 cnt, A4 V] W fun r w' => r = .returned (.tuple #[.string (B (T i)), .bool (bb i), .int .i64 0]) ∧ Below W.heap.size W w')
    (L H : List UInt8) (e4 : T 4 = if s then H else L) (e3 : T 3 = if s then L else H) (e2 : T 2 = L) (e0 : T 0 = L ∨ T 0 = H) (e1 : T 1 = L ∨ T 1 = H) :
    Calls Tryz.prog 7 #[.int .i64 n, .int .i64 cnt, A4 V] w fun r w' => r = .returned (.bool true) ∧ Below w.heap.size w w' := by
  have hsm := cell_set_map
  have htl := B_toList
  have E4 : Hid (T 4 = if s then H else L) := e4
  have E3 : Hid (T 3 = if s then L else H) := e3
  have E2 : Hid (T 2 = L) := e2
  have E0 : Hid (T 0 = L ∨ T 0 = H) := e0
  have E1 : Hid (T 1 = L ∨ T 1 = H) := e1
  clear e4 e3 e2 e0 e1
  unfold DV A4 at *
  go_enter Tryz.func7, Tryz.ntmps7
  go_wp2_with (first
    | (go_at_call 8; refine (c8 _ bgo).mono ?_; rintro r w1 ⟨rfl, hb1⟩; obtain ⟨hc1, hf1⟩ := bcell hb1; have hz1_0 : w.heap.size < w1.heap.size := lt_below hb1 ltg; have hl1_0 := Nat.le_of_lt hz1_0; have hA1 := bnext (w0 := w) bgo hb1; have hs1 := hA1.size; clear hb1)
    | (go_at_call 13; refine (c13 _).mono ?_; rintro r w2 ⟨rfl, hb2⟩; obtain ⟨hc2, hf2⟩ := bcell hb2; have hz2_0 : w.heap.size < w2.heap.size := lt_below hb2 ltg; have hl2_0 := Nat.le_of_lt hz2_0; have hA2 := bnext (w0 := w) bgo hb2; have hs2 := hA2.size; clear hb2))
  clear c8 c13
  go_loopw [10, 11, 12, 13, 34, 35, 36, 37, 38, 39, 40, 41, 42, 43, 44, 45, 46, 47, 48, 49, 50, 51] (fun _ _ _ _ t34 _ _ _ _ _ _ _ _ _ _ _ _ _ _ _ _ _ wr => ∃ j : Nat, j ≤ 5 ∧ t34 = .int .i64 (j : Int) ∧ Sd5 w V s w2.heap.size T j wr) (fun _ _ _ _ t34 _ _ _ _ _ _ _ _ _ _ _ _ _ _ _ _ _ _ => 5 - (intOf t34).toNat)
  case atStart =>
    refine ⟨0, by decide, rfl, bgo, by simp, by assumption, fun i hi => ?_, fun i hi => ?_, fun i hi => ?_, by go_simp⟩
    · have ht : B (tvT T 0 i) = ⟨#[]⟩ := by unfold tvT; rw [if_neg (by omega)]; rfl
      rw [ht]
      have hor : i = 0 ∨ i = 1 ∨ i = 2 ∨ i = 3 ∨ i = 4 := by omega
      rcases hor with rfl | rfl | rfl | rfl | rfl <;> go_simp
    · go_simp
    · have hor : i = 0 ∨ i = 1 ∨ i = 2 ∨ i = 3 := by omega
      rcases hor with rfl | rfl | rfl | rfl <;> go_simp
  case round =>
    obtain ⟨j, hj, rfl, hR⟩ := hrel
    clear hc1 hf1 hz1_0 hl1_0 hA1 hs1 hc2 hf2 hA2 hs2
    have hB := hR.bel
    have hge := hR.ge
    have hlt := hR.lt
    have p0 := hR.pat 0 (by decide)
    have p1 := hR.pat 1 (by decide)
    have p2 := hR.pat 2 (by decide)
    have p3 := hR.pat 3 (by decide)
    by_cases h5 : j < 5
    · have h5i : (j : Int) < 5 := by omega
      have c9j := fun W => c9 j W h5
      clear c9
      have HR : Hid (Sd5 w V s w2.heap.size T j wr) := hR
      clear hR
      go_wp2_with (go_at_call 9; refine (c9j _ (hT.go bgo) (hT10.next bgo)).mono ?_; rintro r w3 ⟨rfl, hb3⟩; have HR3 := HR.out.next hb3; have hcj := HR3.cel j h5; have hfj := HR3.fro j h5; have HR4 : Hid (Sd5 w V s w2.heap.size T (j + 1) (w3.setCell ⟨w2.heap.size + 1, j, none⟩ (.string (B (T j))))) := HR3.set h5; clear HR3)
      go_roundw
      case rel => exact ⟨j + 1, h5, by go_num, HR4.out⟩
      case measure => simp [intOf]; omega
    · obtain rfl : j = 5 := by omega
      have t5 : ∀ i, i < 5 → tvT T 5 i = T i := fun i hi => if_pos hi
      have k0 := hR.cel 0 (by decide)
      have k1 := hR.cel 1 (by decide)
      have k2 := hR.cel 2 (by decide)
      have k3 := hR.cel 3 (by decide)
      have k4 := hR.cel 4 (by decide)
      have ks := hR.sgn
      rw [t5 _ (by decide)] at k0 k1 k2 k3 k4
      rw [E2.out] at k2
      rw [E3.out] at k3
      rw [E4.out] at k4
      have e0 := E0.out
      have e1 := E1.out
      clear hR t5 E0 E1 E2 E3 E4 c9 p0 p1 p2 p3
      generalize T 0 = T0 at *
      generalize T 1 = T1 at *
      generalize w2.heap.size = h2 at *
      have z0 : w.heap.size < wr.heap.size := by omega
      have z1 : h2 < wr.heap.size := by omega
      by_cases hLH : H = L
      · subst hLH
        obtain rfl : T0 = H := e0.elim id id
        obtain rfl : T1 = T0 := e1.elim id id
        rw [ite_self] at k3 k4
        cases s
        · go_wp2
          refine wp_tail 5 (by kernel_rfl) (by kernel_rfl) (by kernel_rfl) (fun _ _ d _ _ h => by cases d <;> exact h) fun hne hcell => ?_
          simp only [List.take_succ_cons, List.take_zero, List.drop_succ_cons, List.drop_zero]
          repeat go_big_quiet_step (fail)
          refine wpQuiet_nil fun w4 hb4 => ?_
          obtain ⟨hc4, hf4⟩ := bcell hb4; have hz4_0 : w.heap.size < w4.heap.size := lt_below hb4 ltg; have hl4_0 := Nat.le_of_lt hz4_0; have hz4_1 : h2 < w4.heap.size := lt_below hb4 ltg; have hl4_1 := Nat.le_of_lt hz4_1; have hz4_2 : h2 + 1 < w4.heap.size := lt_below hb4 ltg; have hl4_2 := Nat.le_of_lt hz4_2; have hA4 := bnext (w0 := w) bgo hb4; have hs4 := hA4.size; clear hb4
          go_wp2
          go_ret
          exact ⟨by simp, bgo⟩
        · go_wp2
          refine wp_tail 5 (by kernel_rfl) (by kernel_rfl) (by kernel_rfl) (fun _ _ d _ _ h => by cases d <;> exact h) fun hne hcell => ?_
          simp only [List.take_succ_cons, List.take_zero, List.drop_succ_cons, List.drop_zero]
          repeat go_big_quiet_step (fail)
          refine wpQuiet_nil fun w4 hb4 => ?_
          obtain ⟨hc4, hf4⟩ := bcell hb4; have hz4_0 : w.heap.size < w4.heap.size := lt_below hb4 ltg; have hl4_0 := Nat.le_of_lt hz4_0; have hz4_1 : h2 < w4.heap.size := lt_below hb4 ltg; have hl4_1 := Nat.le_of_lt hz4_1; have hz4_2 : h2 + 1 < w4.heap.size := lt_below hb4 ltg; have hl4_2 := Nat.le_of_lt hz4_2; have hA4 := bnext (w0 := w) bgo hb4; have hs4 := hA4.size; clear hb4
          go_wp2
          go_ret
          exact ⟨by simp, bgo⟩
      · have n1 : (H == L) = false := beq_eq_false_iff_ne.2 hLH
        have n2 : (L == H) = false := beq_eq_false_iff_ne.2 fun e => hLH e.symm
        clear hLH
        cases s
        · rw [if_neg (by decide)] at k3 k4
          rcases e0 with rfl | rfl
          · rcases e1 with rfl | rfl
            · go_wp2
              refine wp_tail 5 (by kernel_rfl) (by kernel_rfl) (by kernel_rfl) (fun _ _ d _ _ h => by cases d <;> exact h) fun hne hcell => ?_
              simp only [List.take_succ_cons, List.take_zero, List.drop_succ_cons, List.drop_zero]
              repeat go_big_quiet_step (fail)
              refine wpQuiet_nil fun w4 hb4 => ?_
              obtain ⟨hc4, hf4⟩ := bcell hb4; have hz4_0 : w.heap.size < w4.heap.size := lt_below hb4 ltg; have hl4_0 := Nat.le_of_lt hz4_0; have hz4_1 : h2 < w4.heap.size := lt_below hb4 ltg; have hl4_1 := Nat.le_of_lt hz4_1; have hz4_2 : h2 + 1 < w4.heap.size := lt_below hb4 ltg; have hl4_2 := Nat.le_of_lt hz4_2; have hA4 := bnext (w0 := w) bgo hb4; have hs4 := hA4.size; clear hb4
              go_wp2
              go_ret
              exact ⟨by simp, bgo⟩
            · go_wp2
              refine wp_tail 5 (by kernel_rfl) (by kernel_rfl) (by kernel_rfl) (fun _ _ d _ _ h => by cases d <;> exact h) fun hne hcell => ?_
              simp only [List.take_succ_cons, List.take_zero, List.drop_succ_cons, List.drop_zero]
              repeat go_big_quiet_step (fail)
              refine wpQuiet_nil fun w4 hb4 => ?_
              obtain ⟨hc4, hf4⟩ := bcell hb4; have hz4_0 : w.heap.size < w4.heap.size := lt_below hb4 ltg; have hl4_0 := Nat.le_of_lt hz4_0; have hz4_1 : h2 < w4.heap.size := lt_below hb4 ltg; have hl4_1 := Nat.le_of_lt hz4_1; have hz4_2 : h2 + 1 < w4.heap.size := lt_below hb4 ltg; have hl4_2 := Nat.le_of_lt hz4_2; have hA4 := bnext (w0 := w) bgo hb4; have hs4 := hA4.size; clear hb4
              go_wp2
              go_ret
              exact ⟨by simp, bgo⟩
          · rcases e1 with rfl | rfl
            · go_wp2
              refine wp_tail 5 (by kernel_rfl) (by kernel_rfl) (by kernel_rfl) (fun _ _ d _ _ h => by cases d <;> exact h) fun hne hcell => ?_
              simp only [List.take_succ_cons, List.take_zero, List.drop_succ_cons, List.drop_zero]
              repeat go_big_quiet_step (fail)
              refine wpQuiet_nil fun w4 hb4 => ?_
              obtain ⟨hc4, hf4⟩ := bcell hb4; have hz4_0 : w.heap.size < w4.heap.size := lt_below hb4 ltg; have hl4_0 := Nat.le_of_lt hz4_0; have hz4_1 : h2 < w4.heap.size := lt_below hb4 ltg; have hl4_1 := Nat.le_of_lt hz4_1; have hz4_2 : h2 + 1 < w4.heap.size := lt_below hb4 ltg; have hl4_2 := Nat.le_of_lt hz4_2; have hA4 := bnext (w0 := w) bgo hb4; have hs4 := hA4.size; clear hb4
              go_wp2
              go_ret
              exact ⟨by simp, bgo⟩
            · go_wp2
              refine wp_tail 5 (by kernel_rfl) (by kernel_rfl) (by kernel_rfl) (fun _ _ d _ _ h => by cases d <;> exact h) fun hne hcell => ?_
              simp only [List.take_succ_cons, List.take_zero, List.drop_succ_cons, List.drop_zero]
              repeat go_big_quiet_step (fail)
              refine wpQuiet_nil fun w4 hb4 => ?_
              obtain ⟨hc4, hf4⟩ := bcell hb4; have hz4_0 : w.heap.size < w4.heap.size := lt_below hb4 ltg; have hl4_0 := Nat.le_of_lt hz4_0; have hz4_1 : h2 < w4.heap.size := lt_below hb4 ltg; have hl4_1 := Nat.le_of_lt hz4_1; have hz4_2 : h2 + 1 < w4.heap.size := lt_below hb4 ltg; have hl4_2 := Nat.le_of_lt hz4_2; have hA4 := bnext (w0 := w) bgo hb4; have hs4 := hA4.size; clear hb4
              go_wp2
              go_ret
              exact ⟨by simp, bgo⟩
        · rw [if_pos rfl] at k3 k4
          rcases e0 with rfl | rfl
          · rcases e1 with rfl | rfl
            · go_wp2
              refine wp_tail 5 (by kernel_rfl) (by kernel_rfl) (by kernel_rfl) (fun _ _ d _ _ h => by cases d <;> exact h) fun hne hcell => ?_
              simp only [List.take_succ_cons, List.take_zero, List.drop_succ_cons, List.drop_zero]
              repeat go_big_quiet_step (fail)
              refine wpQuiet_nil fun w4 hb4 => ?_
              obtain ⟨hc4, hf4⟩ := bcell hb4; have hz4_0 : w.heap.size < w4.heap.size := lt_below hb4 ltg; have hl4_0 := Nat.le_of_lt hz4_0; have hz4_1 : h2 < w4.heap.size := lt_below hb4 ltg; have hl4_1 := Nat.le_of_lt hz4_1; have hz4_2 : h2 + 1 < w4.heap.size := lt_below hb4 ltg; have hl4_2 := Nat.le_of_lt hz4_2; have hA4 := bnext (w0 := w) bgo hb4; have hs4 := hA4.size; clear hb4
              go_wp2
              go_ret
              exact ⟨by simp, bgo⟩
            · go_wp2
              refine wp_tail 5 (by kernel_rfl) (by kernel_rfl) (by kernel_rfl) (fun _ _ d _ _ h => by cases d <;> exact h) fun hne hcell => ?_
              simp only [List.take_succ_cons, List.take_zero, List.drop_succ_cons, List.drop_zero]
              repeat go_big_quiet_step (fail)
              refine wpQuiet_nil fun w4 hb4 => ?_
              obtain ⟨hc4, hf4⟩ := bcell hb4; have hz4_0 : w.heap.size < w4.heap.size := lt_below hb4 ltg; have hl4_0 := Nat.le_of_lt hz4_0; have hz4_1 : h2 < w4.heap.size := lt_below hb4 ltg; have hl4_1 := Nat.le_of_lt hz4_1; have hz4_2 : h2 + 1 < w4.heap.size := lt_below hb4 ltg; have hl4_2 := Nat.le_of_lt hz4_2; have hA4 := bnext (w0 := w) bgo hb4; have hs4 := hA4.size; clear hb4
              go_wp2
              go_ret
              exact ⟨by simp, bgo⟩
          · rcases e1 with rfl | rfl
            · go_wp2
              refine wp_tail 5 (by kernel_rfl) (by kernel_rfl) (by kernel_rfl) (fun _ _ d _ _ h => by cases d <;> exact h) fun hne hcell => ?_
              simp only [List.take_succ_cons, List.take_zero, List.drop_succ_cons, List.drop_zero]
              repeat go_big_quiet_step (fail)
              refine wpQuiet_nil fun w4 hb4 => ?_
              obtain ⟨hc4, hf4⟩ := bcell hb4; have hz4_0 : w.heap.size < w4.heap.size := lt_below hb4 ltg; have hl4_0 := Nat.le_of_lt hz4_0; have hz4_1 : h2 < w4.heap.size := lt_below hb4 ltg; have hl4_1 := Nat.le_of_lt hz4_1; have hz4_2 : h2 + 1 < w4.heap.size := lt_below hb4 ltg; have hl4_2 := Nat.le_of_lt hz4_2; have hA4 := bnext (w0 := w) bgo hb4; have hs4 := hA4.size; clear hb4
              go_wp2
              go_ret
              exact ⟨by simp, bgo⟩
            · go_wp2
              refine wp_tail 5 (by kernel_rfl) (by kernel_rfl) (by kernel_rfl) (fun _ _ d _ _ h => by cases d <;> exact h) fun hne hcell => ?_
              simp only [List.take_succ_cons, List.take_zero, List.drop_succ_cons, List.drop_zero]
              repeat go_big_quiet_step (fail)
              refine wpQuiet_nil fun w4 hb4 => ?_
              obtain ⟨hc4, hf4⟩ := bcell hb4; have hz4_0 : w.heap.size < w4.heap.size := lt_below hb4 ltg; have hl4_0 := Nat.le_of_lt hz4_0; have hz4_1 : h2 < w4.heap.size := lt_below hb4 ltg; have hl4_1 := Nat.le_of_lt hz4_1; have hz4_2 : h2 + 1 < w4.heap.size := lt_below hb4 ltg; have hl4_2 := Nat.le_of_lt hz4_2; have hA4 := bnext (w0 := w) bgo hb4; have hs4 := hA4.size; clear hb4
              go_wp2
              go_ret
              exact ⟨by simp, bgo⟩
end
theorem fxT_same {d d' : Int} {s : Bool} {k : Nat} {x E : Int} {m : Nat} (h : fxC d s k x E m = fxC d' s k x E m) : fxT d s k x E m = fxT d' s k x E m := by
  unfold fxT
  rw [h]
theorem fixedSides_any (n cnt : Int) (V : Nat) (w : World) (hT : Tab w) (hT10 : Tb10 w) (hV : V < 2 ^ 256) : Calls Tryz.prog 7 #[.int .i64 n, .int .i64 cnt, A4 V] w fun r w' => r = .returned (.bool true) ∧ Below w.heap.size w w' := by
  have c8 := fun W (hW : Below w.heap.size w W) => awake10 W (hT.go hW) (hT10.next hW)
  by_cases hf : finP n V
  · obtain ⟨hg, hc, hk⟩ := hf
    obtain ⟨hb, hkb, hx1, hx2, hD⟩ := fin_facts ⟨hg, hc, hk⟩
    have c6 := fun W => runpack_any n V W hV
    rw [show unE n V = 0 from if_pos hg] at c6
    have eD : (unD n V).v = DV 1 (unD n V).s (unD n V).g (unD n V).x (unD n V).k := by rw [← hc]
    rw [eD] at c6
    have c13 := fun W => fin9_y n V (unD n V).s (unD n V).g (unD n V).x (unD n V).k W hb c6 hkb hk
    by_cases hcnt : cnt < 1 ∨ 100 < cnt
    · exact sd10_n n cnt V 1 _ _ _ _ w hT hT10 c8 true (Or.inr hcnt) c13
    · obtain ⟨m, rfl⟩ : ∃ m : Nat, cnt = (m : Int) := ⟨cnt.toNat, by omega⟩
      have sd := wh_sides (unD n V).s (fxA (unD n V).k (unD n V).x (cuE (unD n V).k (unD n V).x - m + 1)) (fxB (unD n V).x (cuE (unD n V).k (unD n V).x - m + 1))
      have one : ∀ d, fxT d (unD n V).s (unD n V).k (unD n V).x (cuE (unD n V).k (unD n V).x) m = fxT (loD (unD n V).s) (unD n V).s (unD n V).k (unD n V).x (cuE (unD n V).k (unD n V).x) m ∨ fxT d (unD n V).s (unD n V).k (unD n V).x (cuE (unD n V).k (unD n V).x) m = fxT (hiD (unD n V).s) (unD n V).s (unD n V).k (unD n V).x (cuE (unD n V).k (unD n V).x) m := fun d => by
        rcases sd.2 d with h | h
        · exact Or.inl (fxT_same h)
        · exact Or.inr (fxT_same h)
      refine sd10_k n m V 1 (unD n V).s (unD n V).g (unD n V).x (unD n V).k w hT hT10 c8 (by omega) (by omega) c13 (fun i => fxT (i : Int) (unD n V).s (unD n V).k (unD n V).x (cuE (unD n V).k (unD n V).x) m) (fun _ => fxI (unD n V).k (unD n V).x (cuE (unD n V).k (unD n V).x) m) (fun i W hi hW hW10 => fwrite_k hV ⟨by omega, by omega⟩ hg W hW (by omega) (by omega) hW10 hc hk rfl)
        (fxT (loD (unD n V).s) (unD n V).s (unD n V).k (unD n V).x (cuE (unD n V).k (unD n V).x) m) (fxT (hiD (unD n V).s) (unD n V).s (unD n V).k (unD n V).x (cuE (unD n V).k (unD n V).x) m) ?_ ?_ (fxT_same sd.1) (one 0) (one 1)
      · cases (unD n V).s <;> rfl
      · cases (unD n V).s <;> rfl
  · obtain ⟨c, s, g, x, k, c13⟩ := fin9_n n V hV hf
    exact sd10_n n cnt V c s g x k w hT hT10 c8 false (Or.inl rfl) c13
end Go.Proofs.YtogfiipmebgnjaaGreatDoor
