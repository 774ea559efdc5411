/-
  What the law LimbsMuls does: it returns true.
-/
import Derived.Test.YtbbjkpcccimcbaaTms
set_option linter.unusedVariables false
set_option linter.unusedSimpArgs false
namespace Go.Proofs.Ytbbjkpcccimcbaa
open Go.RowKit
attribute [local go_sem ↓] Go.wp_at_zero Go.wp_at_succ

set_option maxHeartbeats 4000000 in
theorem limbsMuls_any (x : Nat → Int) (n : Int) (w : World) (hx : Words x) (hn : 0 ≤ n ∧ n ≤ 18446744073709551615) :
    Calls Try.prog 7 #[.agg (arrOf x 8), .int .u64 n] w fun e w' => e = .returned (.bool true) ∧ Below w.heap.size w w' := by
  have hK0 : KP w [(w.heap.size, 8, x)] (w.alloc (.cells (arrOf x 8) 23)) := KP.new (l := []) ⟨Below.refl _ _, fun e he => by cases he⟩ (arrOf x 8) 23 8 x (fun i hi => arrOf_get? x 8 i hi)
  have hsx : (arrOf x 8).size = 8 := arrOf_size x 8
  have c12 : ∀ w, Calls Try.prog 12 #[.agg #[.int .u64 (x 0), .int .u64 (x 1), .int .u64 (x 2), .int .u64 (x 3), .int .u64 (x 4), .int .u64 (x 5), .int .u64 (x 6), .int .u64 (x 7)]] w fun e w' => e = .returned (.agg #[.int .u64 (x 0), .int .u64 (x 1)]) ∧ Below w.heap.size w w' := fun w => two_any x w
  have c14 : ∀ w, Calls Try.prog 14 #[.agg #[.int .u64 (x 0), .int .u64 (x 1), .int .u64 (x 2), .int .u64 (x 3), .int .u64 (x 4), .int .u64 (x 5), .int .u64 (x 6), .int .u64 (x 7)]] w fun e w' => e = .returned (.agg #[.int .u64 (x 0), .int .u64 (x 1), .int .u64 (x 2), .int .u64 (x 3)]) ∧ Below w.heap.size w w' := fun w => four_any x w
  have m1 : ∀ w, Calls Try.prog 42 #[.agg #[.int .u64 (x 0)], .int .u64 n] w fun e w' => e = .returned (.tuple #[.agg #[.int .u64 (mulP x n 0)], .int .u64 (mulC x n 1)]) ∧ Below w.heap.size w w' := fun w => limMul1 x n w hx hn
  have m2 : ∀ w, Calls Try.prog 43 #[.agg #[.int .u64 (x 0), .int .u64 (x 1)], .int .u64 n] w fun e w' => e = .returned (.tuple #[.agg #[.int .u64 (mulP x n 0), .int .u64 (mulP x n 1)], .int .u64 (mulC x n 2)]) ∧ Below w.heap.size w w' := fun w => limMul2 x n w hx hn
  have m4 : ∀ w, Calls Try.prog 44 #[.agg #[.int .u64 (x 0), .int .u64 (x 1), .int .u64 (x 2), .int .u64 (x 3)], .int .u64 n] w fun e w' => e = .returned (.tuple #[.agg #[.int .u64 (mulP x n 0), .int .u64 (mulP x n 1), .int .u64 (mulP x n 2), .int .u64 (mulP x n 3)], .int .u64 (mulC x n 4)]) ∧ Below w.heap.size w w' := fun w => limMul4 x n w hx hn
  have m8 : ∀ w, Calls Try.prog 45 #[.agg #[.int .u64 (x 0), .int .u64 (x 1), .int .u64 (x 2), .int .u64 (x 3), .int .u64 (x 4), .int .u64 (x 5), .int .u64 (x 6), .int .u64 (x 7)], .int .u64 n] w fun e w' => e = .returned (.tuple #[.agg #[.int .u64 (mulP x n 0), .int .u64 (mulP x n 1), .int .u64 (mulP x n 2), .int .u64 (mulP x n 3), .int .u64 (mulP x n 4), .int .u64 (mulP x n 5), .int .u64 (mulP x n 6), .int .u64 (mulP x n 7)], .int .u64 (mulC x n 8)]) ∧ Below w.heap.size w w' := fun w => limMul8 x n w hx hn
  generalize arrOf x 8 = ax at *
  go_enter Try.func7, Try.ntmps7
  go_wp2_with (first | (go_at_call 9; refine (awake_any _).mono ?_; rintro e w1 ⟨rfl, hb1⟩; have hK1 := hK0.next hb1; clear hK0 hb1; have hcx := (hK1.at (g := w.heap.size) (n := 8) (x := x) (by simp)).2))
  go_wp2_with (go_at_call 42; refine (m1 _).mono ?_; rintro e u1 ⟨rfl, hbu1⟩; have hK10 := (hK1.next hbu1).new #[.int .u64 (mulP x n 0)] 25 1 (mulP x n) (fun i hi => match i, hi with | 0, _ => rfl); clear hcx; have hcx := (hK10.at (g := w.heap.size) (n := 8) (x := x) (by simp)).2)
  go_wp2_with (go_at_call 12; refine (c12 _).mono ?_; rintro e v2 ⟨rfl, hbv2⟩)
  have hKv2 := hK10.next hbv2
  go_wp2_with (go_at_call 43; refine (m2 _).mono ?_; rintro e u2 ⟨rfl, hbu2⟩; have hK20 := (hKv2.next hbu2).new #[.int .u64 (mulP x n 0), .int .u64 (mulP x n 1)] 28 2 (mulP x n) (fun i hi => match i, hi with | 0, _ => rfl | 1, _ => rfl); clear hcx; have hcx := (hK20.at (g := w.heap.size) (n := 8) (x := x) (by simp)).2)
  go_wp2_with (go_at_call 14; refine (c14 _).mono ?_; rintro e v4 ⟨rfl, hbv4⟩)
  have hKv4 := hK20.next hbv4
  go_wp2_with (go_at_call 44; refine (m4 _).mono ?_; rintro e u4 ⟨rfl, hbu4⟩; have hK40 := (hKv4.next hbu4).new #[.int .u64 (mulP x n 0), .int .u64 (mulP x n 1), .int .u64 (mulP x n 2), .int .u64 (mulP x n 3)] 32 4 (mulP x n) (fun i hi => match i, hi with | 0, _ => rfl | 1, _ => rfl | 2, _ => rfl | 3, _ => rfl); clear hcx; have hcx := (hK40.at (g := w.heap.size) (n := 8) (x := x) (by simp)).2)
  go_wp2_with (go_at_call 45; refine (m8 _).mono ?_; rintro e u8 ⟨rfl, hbu8⟩; have hK80 := (hK40.next hbu8).new #[.int .u64 (mulP x n 0), .int .u64 (mulP x n 1), .int .u64 (mulP x n 2), .int .u64 (mulP x n 3), .int .u64 (mulP x n 4), .int .u64 (mulP x n 5), .int .u64 (mulP x n 6), .int .u64 (mulP x n 7)] 23 8 (mulP x n) (fun i hi => match i, hi with | 0, _ => rfl | 1, _ => rfl | 2, _ => rfl | 3, _ => rfl | 4, _ => rfl | 5, _ => rfl | 6, _ => rfl | 7, _ => rfl); clear hcx; have hcx := (hK80.at (g := w.heap.size) (n := 8) (x := x) (by simp)).2)
  generalize hG1 : u1.heap.size = G1 at *
  generalize hG2 : u2.heap.size = G2 at *
  generalize hG4 : u4.heap.size = G4 at *
  generalize hW8 : u8.alloc (.cells #[.int .u64 (mulP x n 0), .int .u64 (mulP x n 1), .int .u64 (mulP x n 2), .int .u64 (mulP x n 3), .int .u64 (mulP x n 4), .int .u64 (mulP x n 5), .int .u64 (mulP x n 6), .int .u64 (mulP x n 7)] 23) = W8 at *
  generalize hG8 : u8.heap.size = G8 at *
  clear hcx hK1 hK10 hKv2 hK20 hKv4 hK40 hbu1 hbu2 hbu4 hbu8 hbv2 hbv4 m1 m2 m4 m8 c12 c14
  refine wp_region_wd (KP w [(G8, 8, mulP x n), (G4, 4, mulP x n), (G2, 2, mulP x n), (G1, 1, mulP x n), (w.heap.size, 8, x)]) (by kernel_rfl) (by kernel_rfl) hK80.drew ?_
  have hne : Nonempty (Wd (KP w [(G8, 8, mulP x n), (G4, 4, mulP x n), (G2, 2, mulP x n), (G1, 1, mulP x n), (w.heap.size, 8, x)])) := ⟨⟨W8, hK80⟩⟩
  have hP : ∀ v v' : World, KP w [(G8, 8, mulP x n), (G4, 4, mulP x n), (G2, 2, mulP x n), (G1, 1, mulP x n), (w.heap.size, 8, x)] v → Below v.heap.size v v' → KP w [(G8, 8, mulP x n), (G4, 4, mulP x n), (G2, 2, mulP x n), (G1, 1, mulP x n), (w.heap.size, 8, x)] v' := fun v v' h hb => h.next hb
  have a1 := fun (t : Wd (KP w [(G8, 8, mulP x n), (G4, 4, mulP x n), (G2, 2, mulP x n), (G1, 1, mulP x n), (w.heap.size, 8, x)])) => times_has (N := 1) (c1 := 1) (c2 := 8) hx hn (by omega) (by omega) (t.h.at (g := G1) (n := 1) (x := mulP x n) (by simp)) (t.h.at (g := w.heap.size) (n := 8) (x := x) (by simp)) (by omega) (by omega) (by omega) (by omega) (by omega)
  have a2 := fun (t : Wd (KP w [(G8, 8, mulP x n), (G4, 4, mulP x n), (G2, 2, mulP x n), (G1, 1, mulP x n), (w.heap.size, 8, x)])) => times_has (N := 2) (c1 := 2) (c2 := 8) hx hn (by omega) (by omega) (t.h.at (g := G2) (n := 2) (x := mulP x n) (by simp)) (t.h.at (g := w.heap.size) (n := 8) (x := x) (by simp)) (by omega) (by omega) (by omega) (by omega) (by omega)
  have a4 := fun (t : Wd (KP w [(G8, 8, mulP x n), (G4, 4, mulP x n), (G2, 2, mulP x n), (G1, 1, mulP x n), (w.heap.size, 8, x)])) => times_has (N := 4) (c1 := 4) (c2 := 8) hx hn (by omega) (by omega) (t.h.at (g := G4) (n := 4) (x := mulP x n) (by simp)) (t.h.at (g := w.heap.size) (n := 8) (x := x) (by simp)) (by omega) (by omega) (by omega) (by omega) (by omega)
  have a8 := fun (t : Wd (KP w [(G8, 8, mulP x n), (G4, 4, mulP x n), (G2, 2, mulP x n), (G1, 1, mulP x n), (w.heap.size, 8, x)])) => times_has (N := 8) (c1 := 8) (c2 := 8) hx hn (by omega) (by omega) (t.h.at (g := G8) (n := 8) (x := mulP x n) (by simp)) (t.h.at (g := w.heap.size) (n := 8) (x := x) (by simp)) (by omega) (by omega) (by omega) (by omega) (by omega)
  clear hK80
  repeat go_big_quiet_step (fail)
  go_big_quiet_step ((go_at_call 46; exact calls_wd _ hP (a1 _)))
  repeat go_big_quiet_step (fail)
  go_big_quiet_step ((go_at_call 46; exact calls_wd _ hP (a2 _)))
  repeat go_big_quiet_step (fail)
  go_big_quiet_step ((go_at_call 46; exact calls_wd _ hP (a4 _)))
  repeat go_big_quiet_step (fail)
  go_big_quiet_step ((go_at_call 46; exact calls_wd _ hP (a8 _)))
  repeat go_big_quiet_step (fail)
  refine wpQuiet_nil ?_
  intro _ hw'
  obtain ⟨t, rfl⟩ := hw'
  go_wp2
  go_ret
  exact ⟨rfl, t.h.1⟩
end Go.Proofs.Ytbbjkpcccimcbaa
