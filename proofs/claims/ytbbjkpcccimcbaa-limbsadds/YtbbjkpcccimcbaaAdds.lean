/-
  What the law LimbsAdds does: it returns true.
-/
import Derived.Test.YtbbjkpcccimcbaaKp
set_option linter.unusedVariables false
set_option linter.unusedSimpArgs false
namespace Go.Proofs.Ytbbjkpcccimcbaa
open Go.RowKit
attribute [local go_sem ↓] Go.wp_at_zero Go.wp_at_succ

theorem sum_low {x y : Nat → Int} {n : Nat} : ∀ i, i < n → sumW (lowW x n) (lowW y n) i = sumW x y i ∧ carryW (lowW x n) (lowW y n) i = carryW x y i
  | 0, h => by simp [sumW, carryW, lowW, h]
  | i + 1, h => by
    have ih := (sum_low (x := x) (y := y) (n := n) i (by omega)).2
    have hc : carryW (lowW x n) (lowW y n) (i + 1) = carryW x y (i + 1) := by simp only [carryW, ih]; simp [lowW, show i < n by omega]
    exact ⟨by unfold sumW; rw [hc]; simp [lowW, h], hc⟩
theorem carry_low {x y : Nat → Int} {n : Nat} (hn : 0 < n) : carryW (lowW x n) (lowW y n) n = carryW x y n := by
  obtain ⟨k, rfl⟩ : ∃ k, n = k + 1 := ⟨n - 1, by omega⟩
  have ih := (sum_low (x := x) (y := y) (n := k + 1) k (by omega)).2
  simp only [carryW, ih]; simp [lowW]
theorem added_facts {x y : Nat → Int} (hx : Words x) (hy : Words y) (n : Nat) (hn : 0 < n) : lowW (sumW x y) n = lowW (sumW (lowW x n) (lowW y n)) n ∧ oneW (carryW x y n) = fun j => sumW (lowW x n) (lowW y n) (n + j) := by
  constructor
  · funext i; unfold lowW; split
    · rename_i h; exact ((sum_low i h).1).symm
    · rfl
  · funext j
    unfold oneW
    by_cases h : j = 0
    · subst h
      rw [if_pos rfl, Nat.add_zero]
      have hc := carry_low (x := x) (y := y) hn
      have hb := carryW_01 hx hy n
      unfold sumW; rw [hc]; simp [lowW]; omega
    · rw [if_neg h]
      exact (sumW_zero (n := n) (lowW_words hx n) (lowW_words hy n) (fun i hi => by unfold lowW; rw [if_neg (by omega)]) (fun i hi => by unfold lowW; rw [if_neg (by omega)]) (n + j) (by omega)).symm
theorem added_has {x y : Nat → Int} {w : World} {n c1 b1 b2 b3 m2 m3 c2 c3 : Nat} (hx : Words x) (hy : Words y) (hn : 0 < n) (hn8 : n ≤ 8) (h1 : HasN b1 n (sumW x y) w) (h2 : HasN b2 m2 x w) (h3 : HasN b3 m3 y w) (hm2 : n ≤ m2) (hm3 : n ≤ m3) (hc1 : n ≤ c1) (hc2 : n ≤ c2) (hc3 : n ≤ c3) (q1 : c1 ≤ 8) (q2 : c2 ≤ 8) (q3 : c3 ≤ 8) :
    Calls Try.prog 16 #[.slice (some ⟨b1, 0, none⟩) n c1, .int .u64 (carryW x y n), .slice (some ⟨b2, 0, none⟩) n c2, .slice (some ⟨b3, 0, none⟩) n c3] w fun e w' => e = .returned (.bool true) ∧ Below w.heap.size w w' := by
  have hf := added_facts hx hy n hn
  have hb := carryW_01 hx hy n
  have hS := h1.num (n := n) (c := c1) (sumW_words x y) (Nat.le_refl _) hc1 (by unfold maxLen; omega)
  rw [hf.1] at hS
  exact added_any b1 0 b2 0 b3 0 c1 c2 c3 n _ _ _ w (by omega) (by omega) hS (h2.num hx hm2 hc2 (by unfold maxLen; omega)) (h3.num hy hm3 hc3 (by unfold maxLen; omega)) hf.2
theorem KPS {w0 w : World} {l : List (Nat × Nat × (Nat → Int))} {b1 b2 : Nat} {x y : Nat → Int} (h : KP w0 l w) (h1 : (b1, 8, x) ∈ l) (h2 : (b2, 8, y) ∈ l) : (∀ i, i < 8 → w.cell? ⟨b1, i, none⟩ = some (.int .u64 (x i))) ∧ (∀ i, i < 8 → w.cell? ⟨b2, i, none⟩ = some (.int .u64 (y i))) := ⟨(h.at h1).2, (h.at h2).2⟩

set_option maxHeartbeats 4000000 in
theorem limbsAdds_any (x y : Nat → Int) (w : World) (hx : Words x) (hy : Words y) :
    Calls Try.prog 3 #[.agg (arrOf x 8), .agg (arrOf y 8)] w fun e w' => e = .returned (.bool true) ∧ Below w.heap.size w w' := by
  have hK0 : KP w [(w.heap.size + 1, 8, y), (w.heap.size, 8, x)] ((w.alloc (.cells (arrOf x 8) 23)).alloc (.cells (arrOf y 8) 23)) := by
    have h1 : KP w [(w.heap.size, 8, x)] (w.alloc (.cells (arrOf x 8) 23)) := KP.new (l := []) ⟨Below.refl _ _, fun e he => by cases he⟩ (arrOf x 8) 23 8 x (fun i hi => arrOf_get? x 8 i hi)
    have h2 := h1.new (arrOf y 8) 23 8 y (fun i hi => arrOf_get? y 8 i hi)
    simpa using h2
  have hsx : (arrOf x 8).size = 8 := arrOf_size x 8
  have hsy : (arrOf y 8).size = 8 := arrOf_size y 8
  have c10 : ∀ w, Calls Try.prog 10 #[.agg #[.int .u64 (x 0)], .agg #[.int .u64 (y 0)]] w fun e w' => e = .returned (.tuple #[.agg #[.int .u64 (sumW x y 0)], .int .u64 (carryW x y 1)]) ∧ Below w.heap.size w w' := fun w => limAdd1 x y w hx hy
  have c12x : ∀ w, Calls Try.prog 12 #[.agg #[.int .u64 (x 0), .int .u64 (x 1), .int .u64 (x 2), .int .u64 (x 3), .int .u64 (x 4), .int .u64 (x 5), .int .u64 (x 6), .int .u64 (x 7)]] w fun e w' => e = .returned (.agg #[.int .u64 (x 0), .int .u64 (x 1)]) ∧ Below w.heap.size w w' := fun w => two_any x w
  have c12y : ∀ w, Calls Try.prog 12 #[.agg #[.int .u64 (y 0), .int .u64 (y 1), .int .u64 (y 2), .int .u64 (y 3), .int .u64 (y 4), .int .u64 (y 5), .int .u64 (y 6), .int .u64 (y 7)]] w fun e w' => e = .returned (.agg #[.int .u64 (y 0), .int .u64 (y 1)]) ∧ Below w.heap.size w w' := fun w => two_any y w
  have c11 : ∀ w, Calls Try.prog 11 #[.agg #[.int .u64 (x 0), .int .u64 (x 1)], .agg #[.int .u64 (y 0), .int .u64 (y 1)]] w fun e w' => e = .returned (.tuple #[.agg #[.int .u64 (sumW x y 0), .int .u64 (sumW x y 1)], .int .u64 (carryW x y 2)]) ∧ Below w.heap.size w w' := fun w => limAdd2 x y w hx hy
  have c14x : ∀ w, Calls Try.prog 14 #[.agg #[.int .u64 (x 0), .int .u64 (x 1), .int .u64 (x 2), .int .u64 (x 3), .int .u64 (x 4), .int .u64 (x 5), .int .u64 (x 6), .int .u64 (x 7)]] w fun e w' => e = .returned (.agg #[.int .u64 (x 0), .int .u64 (x 1), .int .u64 (x 2), .int .u64 (x 3)]) ∧ Below w.heap.size w w' := fun w => four_any x w
  have c14y : ∀ w, Calls Try.prog 14 #[.agg #[.int .u64 (y 0), .int .u64 (y 1), .int .u64 (y 2), .int .u64 (y 3), .int .u64 (y 4), .int .u64 (y 5), .int .u64 (y 6), .int .u64 (y 7)]] w fun e w' => e = .returned (.agg #[.int .u64 (y 0), .int .u64 (y 1), .int .u64 (y 2), .int .u64 (y 3)]) ∧ Below w.heap.size w w' := fun w => four_any y w
  have c13 : ∀ w, Calls Try.prog 13 #[.agg #[.int .u64 (x 0), .int .u64 (x 1), .int .u64 (x 2), .int .u64 (x 3)], .agg #[.int .u64 (y 0), .int .u64 (y 1), .int .u64 (y 2), .int .u64 (y 3)]] w fun e w' => e = .returned (.tuple #[.agg #[.int .u64 (sumW x y 0), .int .u64 (sumW x y 1), .int .u64 (sumW x y 2), .int .u64 (sumW x y 3)], .int .u64 (carryW x y 4)]) ∧ Below w.heap.size w w' := fun w => limAdd4 x y w hx hy
  have c15 : ∀ w, Calls Try.prog 15 #[.agg #[.int .u64 (x 0), .int .u64 (x 1), .int .u64 (x 2), .int .u64 (x 3), .int .u64 (x 4), .int .u64 (x 5), .int .u64 (x 6), .int .u64 (x 7)], .agg #[.int .u64 (y 0), .int .u64 (y 1), .int .u64 (y 2), .int .u64 (y 3), .int .u64 (y 4), .int .u64 (y 5), .int .u64 (y 6), .int .u64 (y 7)]] w fun e w' => e = .returned (.tuple #[.agg #[.int .u64 (sumW x y 0), .int .u64 (sumW x y 1), .int .u64 (sumW x y 2), .int .u64 (sumW x y 3), .int .u64 (sumW x y 4), .int .u64 (sumW x y 5), .int .u64 (sumW x y 6), .int .u64 (sumW x y 7)], .int .u64 (carryW x y 8)]) ∧ Below w.heap.size w w' := fun w => limAdd8 x y w hx hy
  generalize arrOf x 8 = ax at *
  generalize arrOf y 8 = ay at *
  go_enter Try.func3, Try.ntmps3
  go_wp2_with (first | (go_at_call 9; refine (awake_any _).mono ?_; rintro e w1 ⟨rfl, hb1⟩; have hK1 := hK0.next hb1; clear hK0 hb1; have hcx := (hK1.at (g := w.heap.size) (n := 8) (x := x) (by simp)).2; have hcy := (hK1.at (g := w.heap.size + 1) (n := 8) (x := y) (by simp)).2))
  go_wp2_with (go_at_call 10; refine (c10 _).mono ?_; rintro e w2 ⟨rfl, hb2⟩)
  have hK2 := (hK1.next hb2).new #[.int .u64 (sumW x y 0)] 25 1 (sumW x y) (fun i hi => match i, hi with | 0, _ => rfl)
  generalize hW2 : w2.alloc (.cells #[.int .u64 (sumW x y 0)] 25) = W2 at *
  generalize hG1 : w2.heap.size = G1 at *
  clear hK1 hcx hcy hb2 c10 hW2 hG1
  go_cut [7, 8] from 25 to 32 (fun p q wx => ∃ g, p = .pointer (some ⟨g, 0, none⟩) ∧ q = .int .u64 (carryW x y 2) ∧ KP w ((g, 2, sumW x y) :: [(G1, 1, sumW x y), (w.heap.size + 1, 8, y), (w.heap.size, 8, x)]) wx)
  case first =>
    clear c14x c14y c13 c15
    go_region_held3 (fun w' => (∀ i, i < 8 → w'.cell? ⟨w.heap.size, i, none⟩ = some (.int .u64 (x i))) ∧ (∀ i, i < 8 → w'.cell? ⟨w.heap.size + 1, i, none⟩ = some (.int .u64 (y i)))) ((refine KPS (w0 := w) (l := [(G1, 1, sumW x y), (w.heap.size + 1, 8, y), (w.heap.size, 8, x)]) ?_ (by simp) (by simp); repeat (first | assumption | refine KP.setg ?_ ?_ _ _ | apply KP.drew | apply KP.alloc)))
      (first
        | (go_at_call_of 12 (Value.agg #[Value.int .u64 (x 0), .int .u64 (x 1), .int .u64 (x 2), .int .u64 (x 3), .int .u64 (x 4), .int .u64 (x 5), .int .u64 (x 6), .int .u64 (x 7)]); refine (c12x _).mono ?_; rintro e w3 ⟨rfl, hb3⟩; have hk3 : KP w [(G1, 1, sumW x y), (w.heap.size + 1, 8, y), (w.heap.size, 8, x)] w3 := KP.next (by repeat (first | assumption | refine KP.setg ?_ ?_ _ _ | apply KP.drew | apply KP.alloc)) hb3; obtain ⟨hc3, hf3⟩ := bcell hb3; (try have hz3 := lt_alloc hb3); (try have hz3 := lt_alloc' hb3))
        | (go_at_call_of 12 (Value.agg #[Value.int .u64 (y 0), .int .u64 (y 1), .int .u64 (y 2), .int .u64 (y 3), .int .u64 (y 4), .int .u64 (y 5), .int .u64 (y 6), .int .u64 (y 7)]); refine (c12y _).mono ?_; rintro e w4 ⟨rfl, hb4⟩; have hk4 : KP w [(G1, 1, sumW x y), (w.heap.size + 1, 8, y), (w.heap.size, 8, x)] w4 := KP.next (by repeat (first | assumption | refine KP.setg ?_ ?_ _ _ | apply KP.drew | apply KP.alloc)) hb4; obtain ⟨hc4, hf4⟩ := bcell hb4; (try have hz4 := Nat.lt_of_lt_of_le hz3 hb4.size); (try have hz4b := lt_alloc' hb4))
        | (go_at_call 11; refine (c11 _).mono ?_; rintro e w5 ⟨rfl, hb5⟩; have hk5 : KP w [(G1, 1, sumW x y), (w.heap.size + 1, 8, y), (w.heap.size, 8, x)] w5 := KP.next (by repeat (first | assumption | refine KP.setg ?_ ?_ _ _ | apply KP.drew | apply KP.alloc)) hb5; obtain ⟨hc5, hf5⟩ := bcell hb5; (try have hz5 := Nat.lt_of_lt_of_le hz4 hb5.size); (try have hz5b := Nat.lt_of_lt_of_le hz4b hb5.size); (try have hz5c := lt_alloc' hb5)))
    all_goals
      go_wp2
      go_meet
      case rel => first | exact ⟨_, rfl, rfl, KP.new (by repeat (first | assumption | refine KP.setg ?_ ?_ _ _ | apply KP.drew | apply KP.alloc)) _ 28 2 (sumW x y) (fun i hi => match i, hi with | 0, _ => rfl | 1, _ => rfl)⟩ | exact ⟨_, rfl, rfl, KP.put hk5 (by assumption) (by assumption) (sumW x y) 2 (fun i hi => match i, hi with | 0, _ => (by simp [*]) | 1, _ => (by simp [*]))⟩
  case rest =>
    obtain ⟨G2, rfl, rfl, hK3⟩ := hcut
    clear hK2 c12x c12y c11
    go_wp2
    go_cut [9, 10] from 33 to 40 (fun p q wx => ∃ g, p = .pointer (some ⟨g, 0, none⟩) ∧ q = .int .u64 (carryW x y 4) ∧ KP w ((g, 4, sumW x y) :: [(G2, 2, sumW x y), (G1, 1, sumW x y), (w.heap.size + 1, 8, y), (w.heap.size, 8, x)]) wx)
    case first =>
      clear c15
      go_region_held3 (fun w' => (∀ i, i < 8 → w'.cell? ⟨w.heap.size, i, none⟩ = some (.int .u64 (x i))) ∧ (∀ i, i < 8 → w'.cell? ⟨w.heap.size + 1, i, none⟩ = some (.int .u64 (y i)))) ((refine KPS (w0 := w) (l := [(G2, 2, sumW x y), (G1, 1, sumW x y), (w.heap.size + 1, 8, y), (w.heap.size, 8, x)]) ?_ (by simp) (by simp); repeat (first | assumption | refine KP.setg ?_ ?_ _ _ | apply KP.drew | apply KP.alloc)))
        (first
          | (go_at_call_of 14 (Value.agg #[Value.int .u64 (x 0), .int .u64 (x 1), .int .u64 (x 2), .int .u64 (x 3), .int .u64 (x 4), .int .u64 (x 5), .int .u64 (x 6), .int .u64 (x 7)]); refine (c14x _).mono ?_; rintro e w3 ⟨rfl, hb3⟩; have hk3 : KP w [(G2, 2, sumW x y), (G1, 1, sumW x y), (w.heap.size + 1, 8, y), (w.heap.size, 8, x)] w3 := KP.next (by repeat (first | assumption | refine KP.setg ?_ ?_ _ _ | apply KP.drew | apply KP.alloc)) hb3; obtain ⟨hc3, hf3⟩ := bcell hb3; (try have hz3 := lt_alloc hb3); (try have hz3 := lt_alloc' hb3))
          | (go_at_call_of 14 (Value.agg #[Value.int .u64 (y 0), .int .u64 (y 1), .int .u64 (y 2), .int .u64 (y 3), .int .u64 (y 4), .int .u64 (y 5), .int .u64 (y 6), .int .u64 (y 7)]); refine (c14y _).mono ?_; rintro e w4 ⟨rfl, hb4⟩; have hk4 : KP w [(G2, 2, sumW x y), (G1, 1, sumW x y), (w.heap.size + 1, 8, y), (w.heap.size, 8, x)] w4 := KP.next (by repeat (first | assumption | refine KP.setg ?_ ?_ _ _ | apply KP.drew | apply KP.alloc)) hb4; obtain ⟨hc4, hf4⟩ := bcell hb4; (try have hz4 := Nat.lt_of_lt_of_le hz3 hb4.size); (try have hz4b := lt_alloc' hb4))
          | (go_at_call 13; refine (c13 _).mono ?_; rintro e w5 ⟨rfl, hb5⟩; have hk5 : KP w [(G2, 2, sumW x y), (G1, 1, sumW x y), (w.heap.size + 1, 8, y), (w.heap.size, 8, x)] w5 := KP.next (by repeat (first | assumption | refine KP.setg ?_ ?_ _ _ | apply KP.drew | apply KP.alloc)) hb5; obtain ⟨hc5, hf5⟩ := bcell hb5; (try have hz5 := Nat.lt_of_lt_of_le hz4 hb5.size); (try have hz5b := Nat.lt_of_lt_of_le hz4b hb5.size); (try have hz5c := lt_alloc' hb5)))
      all_goals
        go_wp2
        go_meet
        case rel => first | exact ⟨_, rfl, rfl, KP.new (by repeat (first | assumption | refine KP.setg ?_ ?_ _ _ | apply KP.drew | apply KP.alloc)) _ 32 4 (sumW x y) (fun i hi => match i, hi with | 0, _ => rfl | 1, _ => rfl | 2, _ => rfl | 3, _ => rfl)⟩ | exact ⟨_, rfl, rfl, KP.put hk5 (by assumption) (by assumption) (sumW x y) 4 (fun i hi => match i, hi with | 0, _ => (by simp [*]) | 1, _ => (by simp [*]) | 2, _ => (by simp [*]) | 3, _ => (by simp [*]))⟩
    case rest =>
      obtain ⟨G4, rfl, rfl, hK4⟩ := hcut
      clear hK3 c14x c14y c13
      have hcx := (hK4.at (g := w.heap.size) (n := 8) (x := x) (by simp)).2
      have hcy := (hK4.at (g := w.heap.size + 1) (n := 8) (x := y) (by simp)).2
      go_wp2_with (go_at_call 15; refine (c15 _).mono ?_; rintro e w9 ⟨rfl, hb9⟩)
      have hK5 := (hK4.next hb9).new #[.int .u64 (sumW x y 0), .int .u64 (sumW x y 1), .int .u64 (sumW x y 2), .int .u64 (sumW x y 3), .int .u64 (sumW x y 4), .int .u64 (sumW x y 5), .int .u64 (sumW x y 6), .int .u64 (sumW x y 7)] 23 8 (sumW x y) (fun i hi => match i, hi with | 0, _ => rfl | 1, _ => rfl | 2, _ => rfl | 3, _ => rfl | 4, _ => rfl | 5, _ => rfl | 6, _ => rfl | 7, _ => rfl)
      generalize hW2 : w9.alloc (.cells #[.int .u64 (sumW x y 0), .int .u64 (sumW x y 1), .int .u64 (sumW x y 2), .int .u64 (sumW x y 3), .int .u64 (sumW x y 4), .int .u64 (sumW x y 5), .int .u64 (sumW x y 6), .int .u64 (sumW x y 7)] 23) = W9 at *
      generalize hG1 : w9.heap.size = G8 at *
      clear hK4 hcx hcy hb9 c15 hW2 hG1
      refine wp_region_wd (KP w [(G8, 8, sumW x y), (G4, 4, sumW x y), (G2, 2, sumW x y), (G1, 1, sumW x y), (w.heap.size + 1, 8, y), (w.heap.size, 8, x)]) (by kernel_rfl) (by kernel_rfl) hK5.drew ?_
      have hne : Nonempty (Wd (KP w [(G8, 8, sumW x y), (G4, 4, sumW x y), (G2, 2, sumW x y), (G1, 1, sumW x y), (w.heap.size + 1, 8, y), (w.heap.size, 8, x)])) := ⟨⟨W9, hK5⟩⟩
      have hP : ∀ v v' : World, KP w [(G8, 8, sumW x y), (G4, 4, sumW x y), (G2, 2, sumW x y), (G1, 1, sumW x y), (w.heap.size + 1, 8, y), (w.heap.size, 8, x)] v → Below v.heap.size v v' → KP w [(G8, 8, sumW x y), (G4, 4, sumW x y), (G2, 2, sumW x y), (G1, 1, sumW x y), (w.heap.size + 1, 8, y), (w.heap.size, 8, x)] v' := fun v v' h hb => h.next hb
      have a1 := fun (t : Wd (KP w [(G8, 8, sumW x y), (G4, 4, sumW x y), (G2, 2, sumW x y), (G1, 1, sumW x y), (w.heap.size + 1, 8, y), (w.heap.size, 8, x)])) => added_has (n := 1) (c1 := 1) (c2 := 8) (c3 := 8) hx hy (by omega) (by omega) (t.h.at (g := G1) (n := 1) (by simp)) (t.h.at (g := w.heap.size) (n := 8) (x := x) (by simp)) (t.h.at (g := w.heap.size + 1) (n := 8) (x := y) (by simp)) (by omega) (by omega) (by omega) (by omega) (by omega) (by omega) (by omega) (by omega)
      have a2 := fun (t : Wd (KP w [(G8, 8, sumW x y), (G4, 4, sumW x y), (G2, 2, sumW x y), (G1, 1, sumW x y), (w.heap.size + 1, 8, y), (w.heap.size, 8, x)])) => added_has (n := 2) (c1 := 2) (c2 := 8) (c3 := 8) hx hy (by omega) (by omega) (t.h.at (g := G2) (n := 2) (by simp)) (t.h.at (g := w.heap.size) (n := 8) (x := x) (by simp)) (t.h.at (g := w.heap.size + 1) (n := 8) (x := y) (by simp)) (by omega) (by omega) (by omega) (by omega) (by omega) (by omega) (by omega) (by omega)
      have a4 := fun (t : Wd (KP w [(G8, 8, sumW x y), (G4, 4, sumW x y), (G2, 2, sumW x y), (G1, 1, sumW x y), (w.heap.size + 1, 8, y), (w.heap.size, 8, x)])) => added_has (n := 4) (c1 := 4) (c2 := 8) (c3 := 8) hx hy (by omega) (by omega) (t.h.at (g := G4) (n := 4) (by simp)) (t.h.at (g := w.heap.size) (n := 8) (x := x) (by simp)) (t.h.at (g := w.heap.size + 1) (n := 8) (x := y) (by simp)) (by omega) (by omega) (by omega) (by omega) (by omega) (by omega) (by omega) (by omega)
      have a8 := fun (t : Wd (KP w [(G8, 8, sumW x y), (G4, 4, sumW x y), (G2, 2, sumW x y), (G1, 1, sumW x y), (w.heap.size + 1, 8, y), (w.heap.size, 8, x)])) => added_has (n := 8) (c1 := 8) (c2 := 8) (c3 := 8) hx hy (by omega) (by omega) (t.h.at (g := G8) (n := 8) (by simp)) (t.h.at (g := w.heap.size) (n := 8) (x := x) (by simp)) (t.h.at (g := w.heap.size + 1) (n := 8) (x := y) (by simp)) (by omega) (by omega) (by omega) (by omega) (by omega) (by omega) (by omega) (by omega)
      clear hK5
      repeat go_big_quiet_step (fail)
      go_big_quiet_step ((go_at_call 16; exact calls_wd _ hP (a1 _)))
      repeat go_big_quiet_step (fail)
      go_big_quiet_step ((go_at_call 16; exact calls_wd _ hP (a2 _)))
      repeat go_big_quiet_step (fail)
      go_big_quiet_step ((go_at_call 16; exact calls_wd _ hP (a4 _)))
      repeat go_big_quiet_step (fail)
      go_big_quiet_step ((go_at_call 16; exact calls_wd _ hP (a8 _)))
      repeat go_big_quiet_step (fail)
      refine wpQuiet_nil ?_
      intro _ hw'
      obtain ⟨t, rfl⟩ := hw'
      go_wp2
      go_ret
      exact ⟨rfl, t.h.1⟩
end Go.Proofs.Ytbbjkpcccimcbaa
