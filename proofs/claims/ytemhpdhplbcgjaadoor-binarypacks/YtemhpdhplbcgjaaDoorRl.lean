/-
  What the document's own Lay, Good and Is do: contracts.
-/
import Derived.Test.YtemhpdhplbcgjaaDoorRg
import Derived.Test.YtemhpdhplbcgjaaDoorBt
import Derived.Deep.RegionWith
set_option linter.unusedVariables false
set_option linter.unusedSectionVars false
set_option linter.unusedSimpArgs false
set_option maxRecDepth 20000
namespace Go.Proofs.YtemhpdhplbcgjaaDoor
open Go.RowKit

set_option maxHeartbeats 1000000 in
theorem lay_any (B A at_ K : Nat) (v : Value) (w : World) (hB : B < 2 ^ 256) (hK : K < 900) (ha : at_ ≤ 600) (h : NV K A v w) :
    Calls Tryd.prog 37 #[A4 B, v, .int .i64 at_] w fun e w' => e = .returned (A4 (B + A * 2 ^ at_)) ∧ Below w.heap.size w w' := by
  have c52 : ∀ W, Below w.heap.size w W → Calls Tryd.prog 52 #[v, .int .i64 at_] W fun e w' => ∃ v', e = .returned v' ∧ NV (K + 11) (A * 2 ^ at_) v' w' ∧ Below W.heap.size W w' := fun W hW => rleft_nv at_ (by omega) ha (h.next hW)
  clear h
  go_enter Tryd.func37, Tryd.ntmps37
  go_wp2
  go_region_with (first
    | (go_at_call 52; refine (c52 _ (by (repeat (first | with_reducible assumption | with_reducible exact Below.refl _ _ | with_reducible refine Below.setCell ?_ (by first | omega | (dsimp only; omega) | (simp <;> omega)) _ | with_reducible refine Below.alloc ?_ (by first | omega | (simp <;> omega)) _ | with_reducible refine Below.drew ?_)))).mono ?_; rintro e w1 ⟨v1, rfl, hl, hb1⟩; have hbx := box_nv (w0 := w) (B := B) (t := 24) hB (bnext (by (repeat (first | with_reducible assumption | with_reducible exact Below.refl _ _ | with_reducible refine Below.setCell ?_ (by first | omega | (dsimp only; omega) | (simp <;> omega)) _ | with_reducible refine Below.alloc ?_ (by first | omega | (simp <;> omega)) _ | with_reducible refine Below.drew ?_))) hb1); obtain ⟨hc1, hf1⟩ := bcell hb1; have hz1_0 : w.heap.size < w1.heap.size := lt_below hb1 (by first | with_reducible assumption | (simp; done) | (simp; omega)); have hl1_0 := Nat.le_of_lt hz1_0; have hz1_1 : w.heap.size + 1 < w1.heap.size := lt_below hb1 (by first | with_reducible assumption | (simp; done) | (simp; omega)); have hl1_1 := Nat.le_of_lt hz1_1; have hA1 := bnext (w0 := w) (by (repeat (first | with_reducible assumption | with_reducible exact Below.refl _ _ | with_reducible refine Below.setCell ?_ (by first | omega | (dsimp only; omega) | (simp <;> omega)) _ | with_reducible refine Below.alloc ?_ (by first | omega | (simp <;> omega)) _ | with_reducible refine Below.drew ?_))) hb1; have hs1 := hA1.size; clear hb1)
    | (go_at_call 29; refine (radd_nv (by decide) (by omega) hbx hl).mono ?_; rintro e w2 ⟨v2, rfl, hs, hb2⟩; obtain ⟨hc2, hf2⟩ := bcell hb2; have hz2_0 : w.heap.size < w2.heap.size := lt_below hb2 (by first | with_reducible assumption | (simp; done) | (simp; omega)); have hl2_0 := Nat.le_of_lt hz2_0; have hz2_1 : w.heap.size + 1 < w2.heap.size := lt_below hb2 (by first | with_reducible assumption | (simp; done) | (simp; omega)); have hl2_1 := Nat.le_of_lt hz2_1; have hA2 := bnext (w0 := w) (by (repeat (first | with_reducible assumption | with_reducible exact Below.refl _ _ | with_reducible refine Below.setCell ?_ (by first | omega | (dsimp only; omega) | (simp <;> omega)) _ | with_reducible refine Below.alloc ?_ (by first | omega | (simp <;> omega)) _ | with_reducible refine Below.drew ?_))) hb2; have hs2 := hA2.size; clear hb2)
    | (go_at_call 28; refine (bits_nv hs).mono ?_; rintro e w3 ⟨rfl, hb3⟩; obtain ⟨hc3, hf3⟩ := bcell hb3; have hz3_0 : w.heap.size < w3.heap.size := lt_below hb3 (by first | with_reducible assumption | (simp; done) | (simp; omega)); have hl3_0 := Nat.le_of_lt hz3_0; have hz3_1 : w.heap.size + 1 < w3.heap.size := lt_below hb3 (by first | with_reducible assumption | (simp; done) | (simp; omega)); have hl3_1 := Nat.le_of_lt hz3_1; have hA3 := bnext (w0 := w) (by (repeat (first | with_reducible assumption | with_reducible exact Below.refl _ _ | with_reducible refine Below.setCell ?_ (by first | omega | (dsimp only; omega) | (simp <;> omega)) _ | with_reducible refine Below.alloc ?_ (by first | omega | (simp <;> omega)) _ | with_reducible refine Below.drew ?_))) hb3; have hs3 := hA3.size; clear hb3))
  have hsm := cell_set_map
  go_wp2
  exact bodyPost_ret (v := A4 (B + A * 2 ^ at_)) (by simp only [results, Tryd.results37]; go_simp) rfl ⟨rfl, by (repeat (first | with_reducible assumption | with_reducible exact Below.refl _ _ | with_reducible refine Below.setCell ?_ (by first | omega | (dsimp only; omega) | (simp <;> omega)) _ | with_reducible refine Below.alloc ?_ (by first | omega | (simp <;> omega)) _ | with_reducible refine Below.drew ?_))⟩
set_option maxHeartbeats 400000 in
theorem rbinary_any (n : Int) (w : World) : Calls Tryd.prog 35 #[.int .i64 n] w fun e w' => e = .returned (.bool (decide (binN n))) ∧ w' = w := by
  by_cases h1 : 1 ≤ n
  · by_cases h2 : n ≤ 6
    · rw [decide_eq_true (show binN n from ⟨h1, h2⟩)]
      go_enter Tryd.func35, Tryd.ntmps35
      go_wp2
      go_ret
      exact ⟨rfl, rfl⟩
    · rw [decide_eq_false (show ¬ binN n from fun h => h2 h.2)]
      go_enter Tryd.func35, Tryd.ntmps35
      go_wp2
      go_ret
      exact ⟨rfl, rfl⟩
  · rw [decide_eq_false (show ¬ binN n from fun h => h1 h.1)]
    go_enter Tryd.func35, Tryd.ntmps35
    go_wp2
    go_ret
    exact ⟨rfl, rfl⟩
theorem rfits4 (n : Int) (B : Nat) (hB : B < 2 ^ 256) (w : World) :
    Calls Tryd.prog 50 #[.int .i64 n, A4 B] w fun x w' => x = .returned (.bool (decide (okN n ∧ B < 2 ^ (widthN n).toNat))) ∧ Below w.heap.size w w' := by
  refine (rfits_any n (W4 B) (W4_words B) _ (A4_get B) rfl w).mono ?_
  rintro x w' ⟨rfl, hb⟩
  refine ⟨?_, hb⟩
  have hwd := (fields_bounds n).2.1
  have e : (fitsP n (W4 B)) ↔ (okN n ∧ B < 2 ^ (widthN n).toNat) := by
    unfold fitsP
    rw [lenL_low]
    have := len4_le (k := (widthN n).toNat) hB
    rw [show (((widthN n).toNat : Nat) : Int) = widthN n by omega] at this
    rw [this]
  rw [decide_eq_decide.2 e]
set_option maxHeartbeats 400000 in
theorem rgood_any (n : Int) (B : Nat) (hB : B < 2 ^ 256) (w : World) :
    Calls Tryd.prog 24 #[.int .i64 n, A4 B] w fun x w' => x = .returned (.bool (decide (goodN n B))) ∧ Below w.heap.size w w' := by
  have c35 := fun w => rbinary_any n w
  have c50 := fun w => rfits4 n B hB w
  by_cases hb : binN n
  · have hF := bin_fields hb
    rw [decide_eq_true hb] at c35
    have e : (okN n ∧ B < 2 ^ (widthN n).toNat) ↔ goodN n B := by
      rw [hF.2.2.2.2.1, Int.toNat_natCast]
      exact ⟨fun h => ⟨hb, h.2⟩, fun h => ⟨hF.1, h.2⟩⟩
    rw [decide_eq_decide.2 e] at c50
    generalize decide (goodN n B) = D at *
    clear hF e hb hB
    go_enter Tryd.func24, Tryd.ntmps24
    go_wp2_with (first
      | (go_at_call 35; refine (c35 _).mono ?_; rintro e w1 ⟨rfl, rfl⟩)
      | (go_at_call 50; refine (c50 _).mono ?_; rintro e w2 ⟨rfl, hb2⟩))
    go_ret
    exact ⟨rfl, bnext (by (repeat (first | with_reducible assumption | with_reducible exact Below.refl _ _ | with_reducible refine Below.setCell ?_ (by first | omega | (dsimp only; omega) | (simp <;> omega)) _ | with_reducible refine Below.alloc ?_ (by first | omega | (simp <;> omega)) _ | with_reducible refine Below.drew ?_))) hb2⟩
  · rw [decide_eq_false hb] at c35
    rw [decide_eq_false (show ¬ goodN n B from fun h => hb h.1)]
    clear hb hB c50
    go_enter Tryd.func24, Tryd.ntmps24
    go_wp2_with (go_at_call 35; refine (c35 _).mono ?_; rintro e w1 ⟨rfl, rfl⟩)
    go_ret
    exact ⟨rfl, by (repeat (first | with_reducible assumption | with_reducible exact Below.refl _ _ | with_reducible refine Below.setCell ?_ (by first | omega | (dsimp only; omega) | (simp <;> omega)) _ | with_reducible refine Below.alloc ?_ (by first | omega | (simp <;> omega)) _ | with_reducible refine Below.drew ?_))⟩
end Go.Proofs.YtemhpdhplbcgjaaDoor
