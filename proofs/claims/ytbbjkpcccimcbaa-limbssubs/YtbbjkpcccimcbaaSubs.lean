/-
  What the law LimbsSubs does: it returns true.
-/
import Derived.Test.YtbbjkpcccimcbaaTak
import Derived.Test.YtbbjkpcccimcbaaSub
set_option linter.unusedVariables false
set_option linter.unusedSimpArgs false
namespace Go.Proofs.Ytbbjkpcccimcbaa
open Go.RowKit
attribute [local go_sem ↓] Go.wp_at_zero Go.wp_at_succ

theorem KPS {w0 w : World} {l : List (Nat × Nat × (Nat → Int))} {b1 b2 : Nat} {x y : Nat → Int} (h : KP w0 l w) (h1 : (b1, 8, x) ∈ l) (h2 : (b2, 8, y) ∈ l) : (∀ i, i < 8 → w.cell? ⟨b1, i, none⟩ = some (.int .u64 (x i))) ∧ (∀ i, i < 8 → w.cell? ⟨b2, i, none⟩ = some (.int .u64 (y i))) := ⟨(h.at h1).2, (h.at h2).2⟩

set_option maxHeartbeats 4000000 in
theorem limbsSubs_any (x y : Nat → Int) (w : World) (hx : Words x) (hy : Words y) :
    Calls Try.prog 4 #[.agg (arrOf x 8), .agg (arrOf y 8)] w fun e w' => e = .returned (.bool true) ∧ Below w.heap.size w w' := by
  have hK0 : KP w [(w.heap.size + 1, 8, y), (w.heap.size, 8, x)] ((w.alloc (.cells (arrOf x 8) 23)).alloc (.cells (arrOf y 8) 23)) := by
    have h1 : KP w [(w.heap.size, 8, x)] (w.alloc (.cells (arrOf x 8) 23)) := KP.new (l := []) ⟨Below.refl _ _, fun e he => by cases he⟩ (arrOf x 8) 23 8 x (fun i hi => arrOf_get? x 8 i hi)
    have h2 := h1.new (arrOf y 8) 23 8 y (fun i hi => arrOf_get? y 8 i hi)
    simpa using h2
  have hsx : (arrOf x 8).size = 8 := arrOf_size x 8
  have hsy : (arrOf y 8).size = 8 := arrOf_size y 8
  have c10 : ∀ w, Calls Try.prog 17 #[.agg #[.int .u64 (x 0)], .agg #[.int .u64 (y 0)]] w fun e w' => e = .returned (.tuple #[.agg #[.int .u64 (difW x y 0)], .int .u64 (borW x y 1)]) ∧ Below w.heap.size w w' := fun w => limSub1 x y w hx hy
  have c12x : ∀ w, Calls Try.prog 12 #[.agg #[.int .u64 (x 0), .int .u64 (x 1), .int .u64 (x 2), .int .u64 (x 3), .int .u64 (x 4), .int .u64 (x 5), .int .u64 (x 6), .int .u64 (x 7)]] w fun e w' => e = .returned (.agg #[.int .u64 (x 0), .int .u64 (x 1)]) ∧ Below w.heap.size w w' := fun w => two_any x w
  have c12y : ∀ w, Calls Try.prog 12 #[.agg #[.int .u64 (y 0), .int .u64 (y 1), .int .u64 (y 2), .int .u64 (y 3), .int .u64 (y 4), .int .u64 (y 5), .int .u64 (y 6), .int .u64 (y 7)]] w fun e w' => e = .returned (.agg #[.int .u64 (y 0), .int .u64 (y 1)]) ∧ Below w.heap.size w w' := fun w => two_any y w
  have c11 : ∀ w, Calls Try.prog 18 #[.agg #[.int .u64 (x 0), .int .u64 (x 1)], .agg #[.int .u64 (y 0), .int .u64 (y 1)]] w fun e w' => e = .returned (.tuple #[.agg #[.int .u64 (difW x y 0), .int .u64 (difW x y 1)], .int .u64 (borW x y 2)]) ∧ Below w.heap.size w w' := fun w => limSub2 x y w hx hy
  have c14x : ∀ w, Calls Try.prog 14 #[.agg #[.int .u64 (x 0), .int .u64 (x 1), .int .u64 (x 2), .int .u64 (x 3), .int .u64 (x 4), .int .u64 (x 5), .int .u64 (x 6), .int .u64 (x 7)]] w fun e w' => e = .returned (.agg #[.int .u64 (x 0), .int .u64 (x 1), .int .u64 (x 2), .int .u64 (x 3)]) ∧ Below w.heap.size w w' := fun w => four_any x w
  have c14y : ∀ w, Calls Try.prog 14 #[.agg #[.int .u64 (y 0), .int .u64 (y 1), .int .u64 (y 2), .int .u64 (y 3), .int .u64 (y 4), .int .u64 (y 5), .int .u64 (y 6), .int .u64 (y 7)]] w fun e w' => e = .returned (.agg #[.int .u64 (y 0), .int .u64 (y 1), .int .u64 (y 2), .int .u64 (y 3)]) ∧ Below w.heap.size w w' := fun w => four_any y w
  have c13 : ∀ w, Calls Try.prog 19 #[.agg #[.int .u64 (x 0), .int .u64 (x 1), .int .u64 (x 2), .int .u64 (x 3)], .agg #[.int .u64 (y 0), .int .u64 (y 1), .int .u64 (y 2), .int .u64 (y 3)]] w fun e w' => e = .returned (.tuple #[.agg #[.int .u64 (difW x y 0), .int .u64 (difW x y 1), .int .u64 (difW x y 2), .int .u64 (difW x y 3)], .int .u64 (borW x y 4)]) ∧ Below w.heap.size w w' := fun w => limSub4 x y w hx hy
  have c15 : ∀ w, Calls Try.prog 20 #[.agg #[.int .u64 (x 0), .int .u64 (x 1), .int .u64 (x 2), .int .u64 (x 3), .int .u64 (x 4), .int .u64 (x 5), .int .u64 (x 6), .int .u64 (x 7)], .agg #[.int .u64 (y 0), .int .u64 (y 1), .int .u64 (y 2), .int .u64 (y 3), .int .u64 (y 4), .int .u64 (y 5), .int .u64 (y 6), .int .u64 (y 7)]] w fun e w' => e = .returned (.tuple #[.agg #[.int .u64 (difW x y 0), .int .u64 (difW x y 1), .int .u64 (difW x y 2), .int .u64 (difW x y 3), .int .u64 (difW x y 4), .int .u64 (difW x y 5), .int .u64 (difW x y 6), .int .u64 (difW x y 7)], .int .u64 (borW x y 8)]) ∧ Below w.heap.size w w' := fun w => limSub8 x y w hx hy
  generalize arrOf x 8 = ax at *
  generalize arrOf y 8 = ay at *
  go_enter Try.func4, Try.ntmps4
  go_wp2_with (first | (go_at_call 9; refine (awake_any _).mono ?_; rintro e w1 ⟨rfl, hb1⟩; have hK1 := hK0.next hb1; clear hK0 hb1; have hcx := (hK1.at (g := w.heap.size) (n := 8) (x := x) (by simp)).2; have hcy := (hK1.at (g := w.heap.size + 1) (n := 8) (x := y) (by simp)).2))
  go_wp2_with (go_at_call 17; refine (c10 _).mono ?_; rintro e w2 ⟨rfl, hb2⟩)
  have hK2 := (hK1.next hb2).new #[.int .u64 (difW x y 0)] 25 1 (difW x y) (fun i hi => match i, hi with | 0, _ => rfl)
  generalize hW2 : w2.alloc (.cells #[.int .u64 (difW x y 0)] 25) = W2 at *
  generalize hG1 : w2.heap.size = G1 at *
  clear hK1 hcx hcy hb2 c10 hW2 hG1
  go_cut [7, 8] from 26 to 33 (fun p q wx => ∃ g, p = .pointer (some ⟨g, 0, none⟩) ∧ q = .int .u64 (borW x y 2) ∧ KP w ((g, 2, difW x y) :: [(G1, 1, difW x y), (w.heap.size + 1, 8, y), (w.heap.size, 8, x)]) wx)
  case first =>
    clear c14x c14y c13 c15
    go_region_held3 (fun w' => (∀ i, i < 8 → w'.cell? ⟨w.heap.size, i, none⟩ = some (.int .u64 (x i))) ∧ (∀ i, i < 8 → w'.cell? ⟨w.heap.size + 1, i, none⟩ = some (.int .u64 (y i)))) ((refine KPS (w0 := w) (l := [(G1, 1, difW x y), (w.heap.size + 1, 8, y), (w.heap.size, 8, x)]) ?_ (by simp) (by simp); repeat (first | assumption | refine KP.setg ?_ ?_ _ _ | apply KP.drew | apply KP.alloc)))
      (first
        | (go_at_call_of 12 (Value.agg #[Value.int .u64 (x 0), .int .u64 (x 1), .int .u64 (x 2), .int .u64 (x 3), .int .u64 (x 4), .int .u64 (x 5), .int .u64 (x 6), .int .u64 (x 7)]); refine (c12x _).mono ?_; rintro e w3 ⟨rfl, hb3⟩; have hk3 : KP w [(G1, 1, difW x y), (w.heap.size + 1, 8, y), (w.heap.size, 8, x)] w3 := KP.next (by repeat (first | assumption | refine KP.setg ?_ ?_ _ _ | apply KP.drew | apply KP.alloc)) hb3; obtain ⟨hc3, hf3⟩ := bcell hb3; (try have hz3 := lt_alloc hb3); (try have hz3 := lt_alloc' hb3))
        | (go_at_call_of 12 (Value.agg #[Value.int .u64 (y 0), .int .u64 (y 1), .int .u64 (y 2), .int .u64 (y 3), .int .u64 (y 4), .int .u64 (y 5), .int .u64 (y 6), .int .u64 (y 7)]); refine (c12y _).mono ?_; rintro e w4 ⟨rfl, hb4⟩; have hk4 : KP w [(G1, 1, difW x y), (w.heap.size + 1, 8, y), (w.heap.size, 8, x)] w4 := KP.next (by repeat (first | assumption | refine KP.setg ?_ ?_ _ _ | apply KP.drew | apply KP.alloc)) hb4; obtain ⟨hc4, hf4⟩ := bcell hb4; (try have hz4 := Nat.lt_of_lt_of_le hz3 hb4.size); (try have hz4b := lt_alloc' hb4))
        | (go_at_call 18; refine (c11 _).mono ?_; rintro e w5 ⟨rfl, hb5⟩; have hk5 : KP w [(G1, 1, difW x y), (w.heap.size + 1, 8, y), (w.heap.size, 8, x)] w5 := KP.next (by repeat (first | assumption | refine KP.setg ?_ ?_ _ _ | apply KP.drew | apply KP.alloc)) hb5; obtain ⟨hc5, hf5⟩ := bcell hb5; (try have hz5 := Nat.lt_of_lt_of_le hz4 hb5.size); (try have hz5b := Nat.lt_of_lt_of_le hz4b hb5.size); (try have hz5c := lt_alloc' hb5)))
    all_goals
      go_wp2
      go_meet
      case rel => first | exact ⟨_, rfl, rfl, KP.new (by repeat (first | assumption | refine KP.setg ?_ ?_ _ _ | apply KP.drew | apply KP.alloc)) _ 28 2 (difW x y) (fun i hi => match i, hi with | 0, _ => rfl | 1, _ => rfl)⟩ | exact ⟨_, rfl, rfl, KP.put hk5 (by assumption) (by assumption) (difW x y) 2 (fun i hi => match i, hi with | 0, _ => (by simp [*]) | 1, _ => (by simp [*]))⟩
  case rest =>
    obtain ⟨G2, rfl, rfl, hK3⟩ := hcut
    clear hK2 c12x c12y c11
    go_wp2
    go_cut [9, 10] from 34 to 41 (fun p q wx => ∃ g, p = .pointer (some ⟨g, 0, none⟩) ∧ q = .int .u64 (borW x y 4) ∧ KP w ((g, 4, difW x y) :: [(G2, 2, difW x y), (G1, 1, difW x y), (w.heap.size + 1, 8, y), (w.heap.size, 8, x)]) wx)
    case first =>
      clear c15
      go_region_held3 (fun w' => (∀ i, i < 8 → w'.cell? ⟨w.heap.size, i, none⟩ = some (.int .u64 (x i))) ∧ (∀ i, i < 8 → w'.cell? ⟨w.heap.size + 1, i, none⟩ = some (.int .u64 (y i)))) ((refine KPS (w0 := w) (l := [(G2, 2, difW x y), (G1, 1, difW x y), (w.heap.size + 1, 8, y), (w.heap.size, 8, x)]) ?_ (by simp) (by simp); repeat (first | assumption | refine KP.setg ?_ ?_ _ _ | apply KP.drew | apply KP.alloc)))
        (first
          | (go_at_call_of 14 (Value.agg #[Value.int .u64 (x 0), .int .u64 (x 1), .int .u64 (x 2), .int .u64 (x 3), .int .u64 (x 4), .int .u64 (x 5), .int .u64 (x 6), .int .u64 (x 7)]); refine (c14x _).mono ?_; rintro e w3 ⟨rfl, hb3⟩; have hk3 : KP w [(G2, 2, difW x y), (G1, 1, difW x y), (w.heap.size + 1, 8, y), (w.heap.size, 8, x)] w3 := KP.next (by repeat (first | assumption | refine KP.setg ?_ ?_ _ _ | apply KP.drew | apply KP.alloc)) hb3; obtain ⟨hc3, hf3⟩ := bcell hb3; (try have hz3 := lt_alloc hb3); (try have hz3 := lt_alloc' hb3))
          | (go_at_call_of 14 (Value.agg #[Value.int .u64 (y 0), .int .u64 (y 1), .int .u64 (y 2), .int .u64 (y 3), .int .u64 (y 4), .int .u64 (y 5), .int .u64 (y 6), .int .u64 (y 7)]); refine (c14y _).mono ?_; rintro e w4 ⟨rfl, hb4⟩; have hk4 : KP w [(G2, 2, difW x y), (G1, 1, difW x y), (w.heap.size + 1, 8, y), (w.heap.size, 8, x)] w4 := KP.next (by repeat (first | assumption | refine KP.setg ?_ ?_ _ _ | apply KP.drew | apply KP.alloc)) hb4; obtain ⟨hc4, hf4⟩ := bcell hb4; (try have hz4 := Nat.lt_of_lt_of_le hz3 hb4.size); (try have hz4b := lt_alloc' hb4))
          | (go_at_call 19; refine (c13 _).mono ?_; rintro e w5 ⟨rfl, hb5⟩; have hk5 : KP w [(G2, 2, difW x y), (G1, 1, difW x y), (w.heap.size + 1, 8, y), (w.heap.size, 8, x)] w5 := KP.next (by repeat (first | assumption | refine KP.setg ?_ ?_ _ _ | apply KP.drew | apply KP.alloc)) hb5; obtain ⟨hc5, hf5⟩ := bcell hb5; (try have hz5 := Nat.lt_of_lt_of_le hz4 hb5.size); (try have hz5b := Nat.lt_of_lt_of_le hz4b hb5.size); (try have hz5c := lt_alloc' hb5)))
      all_goals
        go_wp2
        go_meet
        case rel => first | exact ⟨_, rfl, rfl, KP.new (by repeat (first | assumption | refine KP.setg ?_ ?_ _ _ | apply KP.drew | apply KP.alloc)) _ 32 4 (difW x y) (fun i hi => match i, hi with | 0, _ => rfl | 1, _ => rfl | 2, _ => rfl | 3, _ => rfl)⟩ | exact ⟨_, rfl, rfl, KP.put hk5 (by assumption) (by assumption) (difW x y) 4 (fun i hi => match i, hi with | 0, _ => (by simp [*]) | 1, _ => (by simp [*]) | 2, _ => (by simp [*]) | 3, _ => (by simp [*]))⟩
    case rest =>
      obtain ⟨G4, rfl, rfl, hK4⟩ := hcut
      clear hK3 c14x c14y c13
      have hcx := (hK4.at (g := w.heap.size) (n := 8) (x := x) (by simp)).2
      have hcy := (hK4.at (g := w.heap.size + 1) (n := 8) (x := y) (by simp)).2
      go_wp2_with (go_at_call 20; refine (c15 _).mono ?_; rintro e w9 ⟨rfl, hb9⟩)
      have hK5 := (hK4.next hb9).new #[.int .u64 (difW x y 0), .int .u64 (difW x y 1), .int .u64 (difW x y 2), .int .u64 (difW x y 3), .int .u64 (difW x y 4), .int .u64 (difW x y 5), .int .u64 (difW x y 6), .int .u64 (difW x y 7)] 23 8 (difW x y) (fun i hi => match i, hi with | 0, _ => rfl | 1, _ => rfl | 2, _ => rfl | 3, _ => rfl | 4, _ => rfl | 5, _ => rfl | 6, _ => rfl | 7, _ => rfl)
      generalize hW2 : w9.alloc (.cells #[.int .u64 (difW x y 0), .int .u64 (difW x y 1), .int .u64 (difW x y 2), .int .u64 (difW x y 3), .int .u64 (difW x y 4), .int .u64 (difW x y 5), .int .u64 (difW x y 6), .int .u64 (difW x y 7)] 23) = W9 at *
      generalize hG1 : w9.heap.size = G8 at *
      clear hK4 hcx hcy hb9 c15 hW2 hG1
      refine wp_region_wd (KP w [(G8, 8, difW x y), (G4, 4, difW x y), (G2, 2, difW x y), (G1, 1, difW x y), (w.heap.size + 1, 8, y), (w.heap.size, 8, x)]) (by kernel_rfl) (by kernel_rfl) hK5.drew ?_
      have hne : Nonempty (Wd (KP w [(G8, 8, difW x y), (G4, 4, difW x y), (G2, 2, difW x y), (G1, 1, difW x y), (w.heap.size + 1, 8, y), (w.heap.size, 8, x)])) := ⟨⟨W9, hK5⟩⟩
      have hP : ∀ v v' : World, KP w [(G8, 8, difW x y), (G4, 4, difW x y), (G2, 2, difW x y), (G1, 1, difW x y), (w.heap.size + 1, 8, y), (w.heap.size, 8, x)] v → Below v.heap.size v v' → KP w [(G8, 8, difW x y), (G4, 4, difW x y), (G2, 2, difW x y), (G1, 1, difW x y), (w.heap.size + 1, 8, y), (w.heap.size, 8, x)] v' := fun v v' h hb => h.next hb
      have hcx : ∀ (t : Wd (KP w [(G8, 8, difW x y), (G4, 4, difW x y), (G2, 2, difW x y), (G1, 1, difW x y), (w.heap.size + 1, 8, y), (w.heap.size, 8, x)])) (i : Nat), i < 8 → t.w.cell? ⟨w.heap.size, i, none⟩ = some (.int .u64 (x i)) := fun t => (t.h.at (g := w.heap.size) (n := 8) (x := x) (by simp)).2
      have hcy : ∀ (t : Wd (KP w [(G8, 8, difW x y), (G4, 4, difW x y), (G2, 2, difW x y), (G1, 1, difW x y), (w.heap.size + 1, 8, y), (w.heap.size, 8, x)])) (i : Nat), i < 8 → t.w.cell? ⟨w.heap.size + 1, i, none⟩ = some (.int .u64 (y i)) := fun t => (t.h.at (g := w.heap.size + 1) (n := 8) (x := y) (by simp)).2
      have r1 := fun (t : Wd (KP w [(G8, 8, difW x y), (G4, 4, difW x y), (G2, 2, difW x y), (G1, 1, difW x y), (w.heap.size + 1, 8, y), (w.heap.size, 8, x)])) => rcmp_has (n := 1) (c2 := 8) (c3 := 8) hx hy (by omega) (t.h.at (g := w.heap.size) (n := 8) (x := x) (by simp)) (t.h.at (g := w.heap.size + 1) (n := 8) (x := y) (by simp)) (by omega) (by omega) (by omega) (by omega) (by omega) (by omega)
      have a1 := fun (t : Wd (KP w [(G8, 8, difW x y), (G4, 4, difW x y), (G2, 2, difW x y), (G1, 1, difW x y), (w.heap.size + 1, 8, y), (w.heap.size, 8, x)])) => taken_has (n := 1) (c1 := 1) (c2 := 8) (c3 := 8) hx hy (by omega) (t.h.at (g := G1) (n := 1) (x := difW x y) (by simp)) (t.h.at (g := w.heap.size) (n := 8) (x := x) (by simp)) (t.h.at (g := w.heap.size + 1) (n := 8) (x := y) (by simp)) (by omega) (by omega) (by omega) (by omega) (by omega) (by omega) (by omega) (by omega)
      have r2 := fun (t : Wd (KP w [(G8, 8, difW x y), (G4, 4, difW x y), (G2, 2, difW x y), (G1, 1, difW x y), (w.heap.size + 1, 8, y), (w.heap.size, 8, x)])) => rcmp_has (n := 2) (c2 := 8) (c3 := 8) hx hy (by omega) (t.h.at (g := w.heap.size) (n := 8) (x := x) (by simp)) (t.h.at (g := w.heap.size + 1) (n := 8) (x := y) (by simp)) (by omega) (by omega) (by omega) (by omega) (by omega) (by omega)
      have a2 := fun (t : Wd (KP w [(G8, 8, difW x y), (G4, 4, difW x y), (G2, 2, difW x y), (G1, 1, difW x y), (w.heap.size + 1, 8, y), (w.heap.size, 8, x)])) => taken_has (n := 2) (c1 := 2) (c2 := 8) (c3 := 8) hx hy (by omega) (t.h.at (g := G2) (n := 2) (x := difW x y) (by simp)) (t.h.at (g := w.heap.size) (n := 8) (x := x) (by simp)) (t.h.at (g := w.heap.size + 1) (n := 8) (x := y) (by simp)) (by omega) (by omega) (by omega) (by omega) (by omega) (by omega) (by omega) (by omega)
      have r4 := fun (t : Wd (KP w [(G8, 8, difW x y), (G4, 4, difW x y), (G2, 2, difW x y), (G1, 1, difW x y), (w.heap.size + 1, 8, y), (w.heap.size, 8, x)])) => rcmp_has (n := 4) (c2 := 8) (c3 := 8) hx hy (by omega) (t.h.at (g := w.heap.size) (n := 8) (x := x) (by simp)) (t.h.at (g := w.heap.size + 1) (n := 8) (x := y) (by simp)) (by omega) (by omega) (by omega) (by omega) (by omega) (by omega)
      have a4 := fun (t : Wd (KP w [(G8, 8, difW x y), (G4, 4, difW x y), (G2, 2, difW x y), (G1, 1, difW x y), (w.heap.size + 1, 8, y), (w.heap.size, 8, x)])) => taken_has (n := 4) (c1 := 4) (c2 := 8) (c3 := 8) hx hy (by omega) (t.h.at (g := G4) (n := 4) (x := difW x y) (by simp)) (t.h.at (g := w.heap.size) (n := 8) (x := x) (by simp)) (t.h.at (g := w.heap.size + 1) (n := 8) (x := y) (by simp)) (by omega) (by omega) (by omega) (by omega) (by omega) (by omega) (by omega) (by omega)
      have r8 := fun (t : Wd (KP w [(G8, 8, difW x y), (G4, 4, difW x y), (G2, 2, difW x y), (G1, 1, difW x y), (w.heap.size + 1, 8, y), (w.heap.size, 8, x)])) => rcmp_has (n := 8) (c2 := 8) (c3 := 8) hx hy (by omega) (t.h.at (g := w.heap.size) (n := 8) (x := x) (by simp)) (t.h.at (g := w.heap.size + 1) (n := 8) (x := y) (by simp)) (by omega) (by omega) (by omega) (by omega) (by omega) (by omega)
      have a8 := fun (t : Wd (KP w [(G8, 8, difW x y), (G4, 4, difW x y), (G2, 2, difW x y), (G1, 1, difW x y), (w.heap.size + 1, 8, y), (w.heap.size, 8, x)])) => taken_has (n := 8) (c1 := 8) (c2 := 8) (c3 := 8) hx hy (by omega) (t.h.at (g := G8) (n := 8) (x := difW x y) (by simp)) (t.h.at (g := w.heap.size) (n := 8) (x := x) (by simp)) (t.h.at (g := w.heap.size + 1) (n := 8) (x := y) (by simp)) (by omega) (by omega) (by omega) (by omega) (by omega) (by omega) (by omega) (by omega)
      have l1 : ∀ w, Calls Try.prog 21 #[.agg #[.int .u64 (x 0)], .agg #[.int .u64 (y 0)]] w fun e w' => e = .returned (.int .i64 (cmpL x y 1)) ∧ Below w.heap.size w w' := fun w => limCmp1 x y w hx hy
      have l2 : ∀ w, Calls Try.prog 23 #[.agg #[.int .u64 (x 0), .int .u64 (x 1)], .agg #[.int .u64 (y 0), .int .u64 (y 1)]] w fun e w' => e = .returned (.int .i64 (cmpL x y 2)) ∧ Below w.heap.size w w' := fun w => limCmp2 x y w hx hy
      have l4 : ∀ w, Calls Try.prog 24 #[.agg #[.int .u64 (x 0), .int .u64 (x 1), .int .u64 (x 2), .int .u64 (x 3)], .agg #[.int .u64 (y 0), .int .u64 (y 1), .int .u64 (y 2), .int .u64 (y 3)]] w fun e w' => e = .returned (.int .i64 (cmpL x y 4)) ∧ Below w.heap.size w w' := fun w => limCmp4 x y w hx hy
      have l8 : ∀ w, Calls Try.prog 25 #[.agg #[.int .u64 (x 0), .int .u64 (x 1), .int .u64 (x 2), .int .u64 (x 3), .int .u64 (x 4), .int .u64 (x 5), .int .u64 (x 6), .int .u64 (x 7)], .agg #[.int .u64 (y 0), .int .u64 (y 1), .int .u64 (y 2), .int .u64 (y 3), .int .u64 (y 4), .int .u64 (y 5), .int .u64 (y 6), .int .u64 (y 7)]] w fun e w' => e = .returned (.int .i64 (cmpL x y 8)) ∧ Below w.heap.size w w' := fun w => limCmp8 x y w hx hy
      have t2x : ∀ w, Calls Try.prog 12 #[.agg #[.int .u64 (x 0), .int .u64 (x 1), .int .u64 (x 2), .int .u64 (x 3), .int .u64 (x 4), .int .u64 (x 5), .int .u64 (x 6), .int .u64 (x 7)]] w fun e w' => e = .returned (.agg #[.int .u64 (x 0), .int .u64 (x 1)]) ∧ Below w.heap.size w w' := fun w => two_any x w
      have t4x : ∀ w, Calls Try.prog 14 #[.agg #[.int .u64 (x 0), .int .u64 (x 1), .int .u64 (x 2), .int .u64 (x 3), .int .u64 (x 4), .int .u64 (x 5), .int .u64 (x 6), .int .u64 (x 7)]] w fun e w' => e = .returned (.agg #[.int .u64 (x 0), .int .u64 (x 1), .int .u64 (x 2), .int .u64 (x 3)]) ∧ Below w.heap.size w w' := fun w => four_any x w
      have t2y : ∀ w, Calls Try.prog 12 #[.agg #[.int .u64 (y 0), .int .u64 (y 1), .int .u64 (y 2), .int .u64 (y 3), .int .u64 (y 4), .int .u64 (y 5), .int .u64 (y 6), .int .u64 (y 7)]] w fun e w' => e = .returned (.agg #[.int .u64 (y 0), .int .u64 (y 1)]) ∧ Below w.heap.size w w' := fun w => two_any y w
      have t4y : ∀ w, Calls Try.prog 14 #[.agg #[.int .u64 (y 0), .int .u64 (y 1), .int .u64 (y 2), .int .u64 (y 3), .int .u64 (y 4), .int .u64 (y 5), .int .u64 (y 6), .int .u64 (y 7)]] w fun e w' => e = .returned (.agg #[.int .u64 (y 0), .int .u64 (y 1), .int .u64 (y 2), .int .u64 (y 3)]) ∧ Below w.heap.size w w' := fun w => four_any y w
      clear hK5
      repeat go_big_quiet_step (fail)
      go_big_quiet_step ((go_at_call 21; exact calls_wd _ hP (l1 _)))
      repeat go_big_quiet_step (fail)
      go_big_quiet_step ((go_at_call 22; exact calls_wd_same _ (r1 _)))
      repeat go_big_quiet_step (fail)
      go_big_quiet_step ((go_at_call 12; exact calls_wd _ hP (t2x _)))
      repeat go_big_quiet_step (fail)
      go_big_quiet_step ((go_at_call 12; exact calls_wd _ hP (t2y _)))
      repeat go_big_quiet_step (fail)
      go_big_quiet_step ((go_at_call 23; exact calls_wd _ hP (l2 _)))
      repeat go_big_quiet_step (fail)
      go_big_quiet_step ((go_at_call 22; exact calls_wd_same _ (r2 _)))
      repeat go_big_quiet_step (fail)
      go_big_quiet_step ((go_at_call 14; exact calls_wd _ hP (t4x _)))
      repeat go_big_quiet_step (fail)
      go_big_quiet_step ((go_at_call 14; exact calls_wd _ hP (t4y _)))
      repeat go_big_quiet_step (fail)
      go_big_quiet_step ((go_at_call 24; exact calls_wd _ hP (l4 _)))
      repeat go_big_quiet_step (fail)
      go_big_quiet_step ((go_at_call 22; exact calls_wd_same _ (r4 _)))
      repeat go_big_quiet_step (fail)
      go_big_quiet_step ((go_at_call 25; exact calls_wd _ hP (l8 _)))
      repeat go_big_quiet_step (fail)
      go_big_quiet_step ((go_at_call 22; exact calls_wd_same _ (r8 _)))
      repeat go_big_quiet_step (fail)
      refine wpQuiet_nil ?_
      intro _ hw'
      obtain ⟨t, rfl⟩ := hw'
      clear r1 r2 r4 r8 l1 l2 l4 l8 t2x t2y t4x t4y hcx hcy
      go_wp2
      refine wp_region_wd (KP w [(G8, 8, difW x y), (G4, 4, difW x y), (G2, 2, difW x y), (G1, 1, difW x y), (w.heap.size + 1, 8, y), (w.heap.size, 8, x)]) (by kernel_rfl) (by kernel_rfl) t.h.drew ?_
      repeat go_big_quiet_step (fail)
      go_big_quiet_step ((go_at_call 26; exact calls_wd _ hP (a1 _)))
      repeat go_big_quiet_step (fail)
      go_big_quiet_step ((go_at_call 26; exact calls_wd _ hP (a2 _)))
      repeat go_big_quiet_step (fail)
      go_big_quiet_step ((go_at_call 26; exact calls_wd _ hP (a4 _)))
      repeat go_big_quiet_step (fail)
      go_big_quiet_step ((go_at_call 26; exact calls_wd _ hP (a8 _)))
      repeat go_big_quiet_step (fail)
      refine wpQuiet_nil ?_
      intro _ hw'
      obtain ⟨t', rfl⟩ := hw'
      go_wp2
      go_ret
      exact ⟨rfl, t'.h.1⟩
end Go.Proofs.Ytbbjkpcccimcbaa
