/-
  What the law LimbsDivs does: it returns true.
-/
import Derived.Test.YtbbjkpcccimcbaaDvs
import Derived.RegionCalls
set_option linter.unusedVariables false
set_option linter.unusedSimpArgs false
namespace Go.Proofs.Ytbbjkpcccimcbaa
open Go.RowKit
attribute [local go_sem ↓] Go.wp_at_zero Go.wp_at_succ

theorem KP.tail {w0 : World} {e : Nat × Nat × (Nat → Int)} {l : List (Nat × Nat × (Nat → Int))} {w : World} (h : KP w0 (e :: l) w) : KP w0 l w := ⟨h.1, fun a ha => h.2 a (List.mem_cons_of_mem _ ha)⟩
set_option maxHeartbeats 2000000 in
theorem divs_zero (x : Nat → Int) (w : World) (hx : Words x) :
    Calls Try.prog 8 #[.agg (arrOf x 8), .int .u64 0] w fun e w' => e = .returned (.bool true) ∧ Below w.heap.size w w' := by
  have hK0 : KP w [(w.heap.size, 8, x)] (w.alloc (.cells (arrOf x 8) 23)) := KP.new (l := []) ⟨Below.refl _ _, fun e he => by cases he⟩ (arrOf x 8) 23 8 x (fun i hi => arrOf_get? x 8 i hi)
  have hsx : (arrOf x 8).size = 8 := arrOf_size x 8
  have c12 : ∀ w, Calls Try.prog 12 #[.agg #[.int .u64 (x 0), .int .u64 (x 1), .int .u64 (x 2), .int .u64 (x 3), .int .u64 (x 4), .int .u64 (x 5), .int .u64 (x 6), .int .u64 (x 7)]] w fun e w' => e = .returned (.agg #[.int .u64 (x 0), .int .u64 (x 1)]) ∧ Below w.heap.size w w' := fun w => two_any x w
  have c47 : ∀ w, Calls Try.prog 47 #[.agg #[.int .u64 (x 0), .int .u64 (x 1), .int .u64 (x 2), .int .u64 (x 3), .int .u64 (x 4), .int .u64 (x 5), .int .u64 (x 6), .int .u64 (x 7)], .int .u64 0] w fun e w' => e = .returned (.tuple #[.agg #[.int .u64 0, .int .u64 0, .int .u64 0, .int .u64 0, .int .u64 0, .int .u64 0, .int .u64 0, .int .u64 0], .int .u64 0]) ∧ Below w.heap.size w w' := fun w => limDiv8_0 x w
  have c48 : ∀ w, Calls Try.prog 48 #[.agg #[.int .u64 (x 0), .int .u64 (x 1)], .int .u64 0] w fun e w' => e = .returned (.tuple #[.agg #[.int .u64 0, .int .u64 0], .int .u64 0]) ∧ Below w.heap.size w w' := fun w => limDiv2_0 x w
  have q8 : ∀ w : World, (Op.equalIn 10000 23 (.agg #[.int .u64 0, .int .u64 0, .int .u64 0, .int .u64 0, .int .u64 0, .int .u64 0, .int .u64 0, .int .u64 0]) (.agg #[.int .u64 0, .int .u64 0, .int .u64 0, .int .u64 0, .int .u64 0, .int .u64 0, .int .u64 0, .int .u64 0])).run Try.prog w = .ok true w := fun w => eq8 (fun _ => 0) w
  have q2 : ∀ w : World, (Op.equalIn 10000 28 (.agg #[.int .u64 0, .int .u64 0]) (.agg #[.int .u64 0, .int .u64 0])).run Try.prog w = .ok true w := fun w => eq2 (fun _ => 0) w
  generalize arrOf x 8 = ax at *
  go_enter Try.func8, Try.ntmps8
  go_wp2_with (first | (go_at_call 9; refine (awake_any _).mono ?_; rintro e w1 ⟨rfl, hb1⟩; have hK1 := hK0.next hb1; clear hK0 hb1; have hcx := (hK1.at (g := w.heap.size) (n := 8) (x := x) (by simp)).2))
  go_wp2_with (go_at_call 47; refine (c47 _).mono ?_; rintro e u1 ⟨rfl, hbu1⟩; have hK2 := (hK1.next hbu1).new #[.int .u64 0, .int .u64 0, .int .u64 0, .int .u64 0, .int .u64 0, .int .u64 0, .int .u64 0, .int .u64 0] 23 8 (fun _ => 0) (fun i hi => match i, hi with | 0, _ => rfl | 1, _ => rfl | 2, _ => rfl | 3, _ => rfl | 4, _ => rfl | 5, _ => rfl | 6, _ => rfl | 7, _ => rfl); clear hcx; have hcx := (hK2.at (g := w.heap.size) (n := 8) (x := x) (by simp)).2)
  go_wp2_with (go_at_call 12; refine (c12 _).mono ?_; rintro e v2 ⟨rfl, hbv2⟩)
  have hK3 := hK2.next hbv2
  go_wp2_with (go_at_call 48; refine (c48 _).mono ?_; rintro e u2 ⟨rfl, hbu2⟩; have hK4 := (hK3.next hbu2).alloc (.cells #[.int .u64 0, .int .u64 0] 28); have hcq := (hK4.at (g := u1.heap.size) (n := 8) (x := fun _ => 0) (by simp)).2)
  go_ret
  exact ⟨rfl, hK4.1⟩

set_option maxHeartbeats 4000000 in
theorem divs_pos (x : Nat → Int) (n : Int) (w : World) (hx : Words x) (hn : 0 < n ∧ n ≤ 18446744073709551615) :
    Calls Try.prog 8 #[.agg (arrOf x 8), .int .u64 n] w fun e w' => e = .returned (.bool true) ∧ Below w.heap.size w w' := by
  have hK0 : KP w [(w.heap.size, 8, x)] (w.alloc (.cells (arrOf x 8) 23)) := KP.new (l := []) ⟨Below.refl _ _, fun e he => by cases he⟩ (arrOf x 8) 23 8 x (fun i hi => arrOf_get? x 8 i hi)
  have hsx : (arrOf x 8).size = 8 := arrOf_size x 8
  have hn0 : (n == 0) = false := by simp; omega
  have b8 := div_back hx hn 8 (by omega)
  have b2 := div_back hx hn 2 (by omega)
  have r8 := remJ_bd x n 8 8 hn.1
  have r2 := remJ_bd x n 2 2 hn.1
  have o8 : Words (oneW (remJ x n 8 8)) := fun i => by unfold oneW; split; exact ⟨r8.1, by omega⟩; decide
  have o2 : Words (oneW (remJ x n 2 2)) := fun i => by unfold oneW; split; exact ⟨r2.1, by omega⟩; decide
  have c12 : ∀ w, Calls Try.prog 12 #[.agg #[.int .u64 (x 0), .int .u64 (x 1), .int .u64 (x 2), .int .u64 (x 3), .int .u64 (x 4), .int .u64 (x 5), .int .u64 (x 6), .int .u64 (x 7)]] w fun e w' => e = .returned (.agg #[.int .u64 (x 0), .int .u64 (x 1)]) ∧ Below w.heap.size w w' := fun w => two_any x w
  have c47 : ∀ w, Calls Try.prog 47 #[.agg #[.int .u64 (x 0), .int .u64 (x 1), .int .u64 (x 2), .int .u64 (x 3), .int .u64 (x 4), .int .u64 (x 5), .int .u64 (x 6), .int .u64 (x 7)], .int .u64 n] w fun e w' => e = .returned (.tuple #[.agg #[.int .u64 (quoW x n 8 0), .int .u64 (quoW x n 8 1), .int .u64 (quoW x n 8 2), .int .u64 (quoW x n 8 3), .int .u64 (quoW x n 8 4), .int .u64 (quoW x n 8 5), .int .u64 (quoW x n 8 6), .int .u64 (quoW x n 8 7)], .int .u64 (remJ x n 8 8)]) ∧ Below w.heap.size w w' := fun w => limDiv8_any x n w hx hn
  have c48 : ∀ w, Calls Try.prog 48 #[.agg #[.int .u64 (x 0), .int .u64 (x 1)], .int .u64 n] w fun e w' => e = .returned (.tuple #[.agg #[.int .u64 (quoW x n 2 0), .int .u64 (quoW x n 2 1)], .int .u64 (remJ x n 2 2)]) ∧ Below w.heap.size w w' := fun w => limDiv2_any x n w hx hn
  have c45 : ∀ w, Calls Try.prog 45 #[.agg #[.int .u64 (quoW x n 8 0), .int .u64 (quoW x n 8 1), .int .u64 (quoW x n 8 2), .int .u64 (quoW x n 8 3), .int .u64 (quoW x n 8 4), .int .u64 (quoW x n 8 5), .int .u64 (quoW x n 8 6), .int .u64 (quoW x n 8 7)], .int .u64 n] w fun e w' => e = .returned (.tuple #[.agg #[.int .u64 (mulP (quoW x n 8) n 0), .int .u64 (mulP (quoW x n 8) n 1), .int .u64 (mulP (quoW x n 8) n 2), .int .u64 (mulP (quoW x n 8) n 3), .int .u64 (mulP (quoW x n 8) n 4), .int .u64 (mulP (quoW x n 8) n 5), .int .u64 (mulP (quoW x n 8) n 6), .int .u64 (mulP (quoW x n 8) n 7)], .int .u64 0]) ∧ Below w.heap.size w w' := fun w => by
    have h := limMul8 (quoW x n 8) n w (quoW_words hx hn.1 8) ⟨Int.le_of_lt hn.1, hn.2⟩
    rw [b8.1] at h; exact h
  have c43 : ∀ w, Calls Try.prog 43 #[.agg #[.int .u64 (quoW x n 2 0), .int .u64 (quoW x n 2 1)], .int .u64 n] w fun e w' => e = .returned (.tuple #[.agg #[.int .u64 (mulP (quoW x n 2) n 0), .int .u64 (mulP (quoW x n 2) n 1)], .int .u64 0]) ∧ Below w.heap.size w w' := fun w => by
    have h := limMul2 (quoW x n 2) n w (quoW_words hx hn.1 2) ⟨Int.le_of_lt hn.1, hn.2⟩
    rw [b2.1] at h; exact h
  have c15 : ∀ w, Calls Try.prog 15 #[.agg #[.int .u64 (mulP (quoW x n 8) n 0), .int .u64 (mulP (quoW x n 8) n 1), .int .u64 (mulP (quoW x n 8) n 2), .int .u64 (mulP (quoW x n 8) n 3), .int .u64 (mulP (quoW x n 8) n 4), .int .u64 (mulP (quoW x n 8) n 5), .int .u64 (mulP (quoW x n 8) n 6), .int .u64 (mulP (quoW x n 8) n 7)], .agg #[.int .u64 (remJ x n 8 8), .int .u64 0, .int .u64 0, .int .u64 0, .int .u64 0, .int .u64 0, .int .u64 0, .int .u64 0]] w fun e w' => e = .returned (.tuple #[.agg #[.int .u64 (x 0), .int .u64 (x 1), .int .u64 (x 2), .int .u64 (x 3), .int .u64 (x 4), .int .u64 (x 5), .int .u64 (x 6), .int .u64 (x 7)], .int .u64 0]) ∧ Below w.heap.size w w' := fun w => by
    have h := limAdd8 (mulP (quoW x n 8) n) (oneW (remJ x n 8 8)) w (mulP_words _ _) o8
    rw [b8.2.1, arrOf_congr (g := x) (fun i hi => b8.2.2 i hi)] at h; exact h
  have c11 : ∀ w, Calls Try.prog 11 #[.agg #[.int .u64 (mulP (quoW x n 2) n 0), .int .u64 (mulP (quoW x n 2) n 1)], .agg #[.int .u64 (remJ x n 2 2), .int .u64 0]] w fun e w' => e = .returned (.tuple #[.agg #[.int .u64 (x 0), .int .u64 (x 1)], .int .u64 0]) ∧ Below w.heap.size w w' := fun w => by
    have h := limAdd2 (mulP (quoW x n 2) n) (oneW (remJ x n 2 2)) w (mulP_words _ _) o2
    rw [b2.2.1, arrOf_congr (g := x) (fun i hi => b2.2.2 i hi)] at h; exact h
  have c49 := fun w => of8 (remJ x n 8 8) w
  have c50 := fun w => of2 (remJ x n 2 2) w
  have e8 : ∀ w : World, (Op.equalIn 10000 23 (.agg #[.int .u64 (x 0), .int .u64 (x 1), .int .u64 (x 2), .int .u64 (x 3), .int .u64 (x 4), .int .u64 (x 5), .int .u64 (x 6), .int .u64 (x 7)]) (.agg #[.int .u64 (x 0), .int .u64 (x 1), .int .u64 (x 2), .int .u64 (x 3), .int .u64 (x 4), .int .u64 (x 5), .int .u64 (x 6), .int .u64 (x 7)])).run Try.prog w = .ok true w := fun w => eq8 x w
  have e2 : ∀ w : World, (Op.equalIn 10000 28 (.agg #[.int .u64 (x 0), .int .u64 (x 1)]) (.agg #[.int .u64 (x 0), .int .u64 (x 1)])).run Try.prog w = .ok true w := fun w => eq2 x w
  have l8 : remJ x n 8 8 < n := r8.2
  have l2 : remJ x n 2 2 < n := r2.2
  clear b8 b2 o8 o2 r8 r2
  generalize arrOf x 8 = ax at *
  generalize remJ x n 8 8 = R8 at *
  generalize remJ x n 2 2 = R2 at *
  generalize mulP (quoW x n 8) n = m8 at *
  generalize mulP (quoW x n 2) n = m2 at *
  generalize quoW x n 8 = k8 at *
  generalize quoW x n 2 = k2 at *
  go_enter Try.func8, Try.ntmps8
  go_wp2_with (first | (go_at_call 9; refine (awake_any _).mono ?_; rintro e w1 ⟨rfl, hb1⟩; have hK1 := hK0.next hb1; clear hK0 hb1; have hcx := (hK1.at (g := w.heap.size) (n := 8) (x := x) (by simp)).2))
  go_wp2_with (go_at_call 47; refine (c47 _).mono ?_; rintro e u1 ⟨rfl, hbu1⟩; have hK2 := (hK1.next hbu1).new #[.int .u64 (k8 0), .int .u64 (k8 1), .int .u64 (k8 2), .int .u64 (k8 3), .int .u64 (k8 4), .int .u64 (k8 5), .int .u64 (k8 6), .int .u64 (k8 7)] 23 8 k8 (fun i hi => match i, hi with | 0, _ => rfl | 1, _ => rfl | 2, _ => rfl | 3, _ => rfl | 4, _ => rfl | 5, _ => rfl | 6, _ => rfl | 7, _ => rfl); clear hcx; have hcx := (hK2.at (g := w.heap.size) (n := 8) (x := x) (by simp)).2)
  go_wp2_with (go_at_call 12; refine (c12 _).mono ?_; rintro e v2 ⟨rfl, hbv2⟩)
  have hK3 := hK2.next hbv2
  go_wp2_with (go_at_call 48; refine (c48 _).mono ?_; rintro e u2 ⟨rfl, hbu2⟩; have hK4 := (hK3.next hbu2).new #[.int .u64 (k2 0), .int .u64 (k2 1)] 28 2 k2 (fun i hi => match i, hi with | 0, _ => rfl | 1, _ => rfl); have hcq := (hK4.at (g := u1.heap.size) (n := 8) (x := k8) (by simp)).2)
  go_wp2_with (go_at_call 45; refine (c45 _).mono ?_; rintro e u3 ⟨rfl, hbu3⟩)
  have hK5 := hK4.next hbu3
  have hK6 := hK5.new #[.int .u64 (m8 0), .int .u64 (m8 1), .int .u64 (m8 2), .int .u64 (m8 3), .int .u64 (m8 4), .int .u64 (m8 5), .int .u64 (m8 6), .int .u64 (m8 7)] 23 8 m8 (fun i hi => match i, hi with | 0, _ => rfl | 1, _ => rfl | 2, _ => rfl | 3, _ => rfl | 4, _ => rfl | 5, _ => rfl | 6, _ => rfl | 7, _ => rfl)
  have hfm : ∀ i, (u3.alloc (.cells #[.int .u64 (m8 0), .int .u64 (m8 1), .int .u64 (m8 2), .int .u64 (m8 3), .int .u64 (m8 4), .int .u64 (m8 5), .int .u64 (m8 6), .int .u64 (m8 7)] 23)).frozen? ⟨u3.heap.size, i, none⟩ = false := fun i => by simp [go_sem]
  generalize hW3 : u3.alloc (.cells #[.int .u64 (m8 0), .int .u64 (m8 1), .int .u64 (m8 2), .int .u64 (m8 3), .int .u64 (m8 4), .int .u64 (m8 5), .int .u64 (m8 6), .int .u64 (m8 7)] 23) = W3 at *
  have hGq : u3.heap.size < W3.heap.size := by rw [← hW3]; simp
  generalize hG1 : u1.heap.size = G1 at *
  generalize hG2 : u2.heap.size = G2 at *
  clear hK1 hK2 hK3 hK4 hcx hcq hbu1 hbu2 hbu3 hbv2 c47 c48 c45 hW3 hG1 hG2
  go_cut [11] from 54 to 60 (fun p wx => p = .int .u64 0 ∧ KP w ((u3.heap.size, 8, x) :: [(G2, 2, k2), (G1, 8, k8), (w.heap.size, 8, x)]) wx)
  case first =>
    have hcm := (hK6.at (g := u3.heap.size) (n := 8) (x := m8) (by simp)).2
    go_region_with (first
      | (go_at_call 49; refine (c49 _).mono ?_; rintro e w4 ⟨rfl, hb4⟩; have hk4 : KP w [(u3.heap.size, 8, m8), (G2, 2, k2), (G1, 8, k8), (w.heap.size, 8, x)] w4 := KP.next (by repeat (first | assumption | apply KP.drew | apply KP.alloc)) hb4; have hcm4 := (hk4.at (g := u3.heap.size) (n := 8) (x := m8) (by simp)).2; have hz4 := Nat.lt_of_lt_of_le hGq hb4.size; have hfm4 := fun i => (hb4.frozen (p := ⟨u3.heap.size, i, none⟩) hGq).trans (hfm i))
      | (go_at_call 15; refine (c15 _).mono ?_; rintro e w5 ⟨rfl, hb5⟩; have hk5 : KP w [(u3.heap.size, 8, m8), (G2, 2, k2), (G1, 8, k8), (w.heap.size, 8, x)] w5 := KP.next (by repeat (first | assumption | apply KP.drew | apply KP.alloc)) hb5; have hcm5 := (hk5.at (g := u3.heap.size) (n := 8) (x := m8) (by simp)).2; have hz5 := Nat.lt_of_lt_of_le hz4 hb5.size; have hfm5 := fun i => (hb5.frozen (p := ⟨u3.heap.size, i, none⟩) hz4).trans (hfm4 i)))
    all_goals
      go_wp2
      go_meet
      case rel => exact ⟨rfl, KP.put hk5.tail hK5 hz5 x 8 (fun i hi => by rw [hcm5 i hi]; rfl)⟩
  case rest =>
    obtain ⟨rfl, hK7⟩ := hcut
    generalize hG3 : u3.heap.size = G3 at *
    clear hK5 hK6 hGq hfm c49 c15 hG3
    have hcp := (hK7.at (g := G2) (n := 2) (x := k2) (by simp)).2
    go_wp2_with (go_at_call 43; refine (c43 _).mono ?_; rintro e u4 ⟨rfl, hbu4⟩)
    have hK8 := hK7.next hbu4
    have hK9 := hK8.new #[.int .u64 (m2 0), .int .u64 (m2 1)] 28 2 m2 (fun i hi => match i, hi with | 0, _ => rfl | 1, _ => rfl)
    have hfm : ∀ i, (u4.alloc (.cells #[.int .u64 (m2 0), .int .u64 (m2 1)] 28)).frozen? ⟨u4.heap.size, i, none⟩ = false := fun i => by simp [go_sem]
    generalize hW4 : u4.alloc (.cells #[.int .u64 (m2 0), .int .u64 (m2 1)] 28) = W4 at *
    have hGq : u4.heap.size < W4.heap.size := by rw [← hW4]; simp
    clear hK7 hcp hbu4 c43 hW4
    go_cut [14] from 67 to 73 (fun p wx => p = .int .u64 0 ∧ KP w ((u4.heap.size, 2, x) :: [(G3, 8, x), (G2, 2, k2), (G1, 8, k8), (w.heap.size, 8, x)]) wx)
    case first =>
      have hcm := (hK9.at (g := u4.heap.size) (n := 2) (x := m2) (by simp)).2
      go_region_with (first
        | (go_at_call 50; refine (c50 _).mono ?_; rintro e w4 ⟨rfl, hb4⟩; have hk4 : KP w [(u4.heap.size, 2, m2), (G3, 8, x), (G2, 2, k2), (G1, 8, k8), (w.heap.size, 8, x)] w4 := KP.next (by repeat (first | assumption | apply KP.drew | apply KP.alloc)) hb4; have hcm4 := (hk4.at (g := u4.heap.size) (n := 2) (x := m2) (by simp)).2; have hz4 := Nat.lt_of_lt_of_le hGq hb4.size; have hfm4 := fun i => (hb4.frozen (p := ⟨u4.heap.size, i, none⟩) hGq).trans (hfm i))
        | (go_at_call 11; refine (c11 _).mono ?_; rintro e w5 ⟨rfl, hb5⟩; have hk5 : KP w [(u4.heap.size, 2, m2), (G3, 8, x), (G2, 2, k2), (G1, 8, k8), (w.heap.size, 8, x)] w5 := KP.next (by repeat (first | assumption | apply KP.drew | apply KP.alloc)) hb5; have hcm5 := (hk5.at (g := u4.heap.size) (n := 2) (x := m2) (by simp)).2; have hz5 := Nat.lt_of_lt_of_le hz4 hb5.size; have hfm5 := fun i => (hb5.frozen (p := ⟨u4.heap.size, i, none⟩) hz4).trans (hfm4 i)))
      all_goals
        go_wp2
        go_meet
        case rel => exact ⟨rfl, KP.put hk5.tail hK8 hz5 x 2 (fun i hi => by rw [hcm5 i hi]; rfl)⟩
    case rest =>
      obtain ⟨rfl, hKA⟩ := hcut
      generalize hG4 : u4.heap.size = G4 at *
      clear hK8 hK9 hGq hfm c50 c11 hG4
      go_wp2
      refine wp_region_wd (KP w [(G4, 2, x), (G3, 8, x), (G2, 2, k2), (G1, 8, k8), (w.heap.size, 8, x)]) (by kernel_rfl) (by kernel_rfl) hKA.drew ?_
      have hne : Nonempty (Wd (KP w [(G4, 2, x), (G3, 8, x), (G2, 2, k2), (G1, 8, k8), (w.heap.size, 8, x)])) := ⟨⟨_, hKA⟩⟩
      have hP : ∀ v v' : World, KP w [(G4, 2, x), (G3, 8, x), (G2, 2, k2), (G1, 8, k8), (w.heap.size, 8, x)] v → Below v.heap.size v v' → KP w [(G4, 2, x), (G3, 8, x), (G2, 2, k2), (G1, 8, k8), (w.heap.size, 8, x)] v' := fun v v' h hb => h.next hb
      have hcx : ∀ (t : Wd (KP w [(G4, 2, x), (G3, 8, x), (G2, 2, k2), (G1, 8, k8), (w.heap.size, 8, x)])) (i : Nat), i < 8 → t.w.cell? ⟨w.heap.size, i, none⟩ = some (.int .u64 (x i)) := fun t => (t.h.at (g := w.heap.size) (n := 8) (x := x) (by simp)).2
      have hcy : ∀ (t : Wd (KP w [(G4, 2, x), (G3, 8, x), (G2, 2, k2), (G1, 8, k8), (w.heap.size, 8, x)])) (i : Nat), i < 8 → t.w.cell? ⟨G3, i, none⟩ = some (.int .u64 (x i)) := fun t => (t.h.at (g := G3) (n := 8) (x := x) (by simp)).2
      have hcz : ∀ (t : Wd (KP w [(G4, 2, x), (G3, 8, x), (G2, 2, k2), (G1, 8, k8), (w.heap.size, 8, x)])) (i : Nat), i < 2 → t.w.cell? ⟨G4, i, none⟩ = some (.int .u64 (x i)) := fun t => (t.h.at (g := G4) (n := 2) (x := x) (by simp)).2
      clear hKA
      repeat go_big_quiet_step (fail)
      go_big_quiet_step ((go_at_call 12; exact calls_wd _ hP (c12 _)))
      repeat go_big_quiet_step (fail)
      refine wpQuiet_nil ?_
      intro _ hw'
      obtain ⟨t, rfl⟩ := hw'
      go_wp2
      go_ret
      exact ⟨rfl, t.h.1⟩

theorem limbsDivs_any (x : Nat → Int) (n : Int) (w : World) (hx : Words x) (hn : 0 ≤ n ∧ n ≤ 18446744073709551615) :
    Calls Try.prog 8 #[.agg (arrOf x 8), .int .u64 n] w fun e w' => e = .returned (.bool true) ∧ Below w.heap.size w w' := by
  by_cases h : n = 0
  · subst h; exact divs_zero x w hx
  · exact divs_pos x n w hx ⟨by omega, hn.2⟩
end Go.Proofs.Ytbbjkpcccimcbaa
