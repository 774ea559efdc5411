/-
  Texts that the proof leans on.
-/
import Derived.Test.YtehgnckgmdkfmaaDoorJ6
import Derived.Test.YtehgnckgmdkfmaaDoorJ11
set_option linter.unusedVariables false
set_option linter.unusedSectionVars false
set_option linter.unusedSimpArgs false
set_option maxRecDepth 20000
namespace Go.Proofs.YtehgnckgmdkfmaaDoor
open Go.RowKit
section
set_option maxHeartbeats 400000 in
theorem great_v (x g : Int) (hx : 0 ≤ x) (hg : x / 8 = g) (w : World) : Calls Tryd.prog 96 #[.int .i64 x] w fun r w' => r = .returned (.int .i64 g) ∧ w = w' := by
  go_enter Tryd.func96, Tryd.ntmps96
  go_wp2
  go_ret
  exact ⟨rfl, rfl⟩
set_option maxHeartbeats 400000 in
theorem known_v (n : Int) (w : World) : Calls Tryd.prog 86 #[.int .i64 n] w fun r w' => r = .returned (.bool (decide (0 ≤ n ∧ n ≤ 11))) ∧ w = w' := by
  by_cases h0 : 0 ≤ n
  · go_enter Tryd.func86, Tryd.ntmps86
    go_wp2
    go_ret
    exact ⟨by simp [h0], rfl⟩
  · rw [decide_eq_false (fun h => h0 h.1)]
    go_enter Tryd.func86, Tryd.ntmps86
    go_wp2
    go_ret
    exact ⟨rfl, rfl⟩
set_option maxHeartbeats 1000000 in
theorem fields_0 (a b c x y z : Int) (w : World)
    (ga : ∀ W, Calls Tryd.prog 96 #[.int .i64 a] W fun r w' => r = .returned (.int .i64 0) ∧ W = w')
    (gb : ∀ W, Calls Tryd.prog 96 #[.int .i64 b] W fun r w' => r = .returned (.int .i64 0) ∧ W = w')
    (gc : ∀ W, Calls Tryd.prog 96 #[.int .i64 c] W fun r w' => r = .returned (.int .i64 0) ∧ W = w')
    (ha : 0 ≤ a) (hb : 0 ≤ b) (hc : 0 ≤ c) (hx : bits .and .i64 (a / 2) 3 = x) (hy : bits .and .i64 (b / 2) 3 = y) (hz : bits .and .i64 (c / 2) 3 = z) :
    Calls Tryd.prog 95 #[.int .i64 a, .int .i64 b, .int .i64 c] w fun r w' => r = .returned (.tuple #[.int .i64 x, .int .i64 y, .int .i64 z]) ∧ w = w' := by
  have o1 : bits .or .i64 0 0 = 0 := by decide
  have o2 : bits .or .i64 0 0 = 0 := by decide
  go_enter Tryd.func95, Tryd.ntmps95
  go_wp2_with (go_at_call 96; first
    | (refine (ga _).mono ?_; rintro r w1 ⟨rfl, rfl⟩; clear ga)
    | (refine (gb _).mono ?_; rintro r w1 ⟨rfl, rfl⟩; clear gb)
    | (refine (gc _).mono ?_; rintro r w1 ⟨rfl, rfl⟩; clear gc))
  exact bodyPost_ret (by simp only [results, Tryd.results95]; go_simp) rfl ⟨rfl, rfl⟩
set_option maxHeartbeats 1000000 in
theorem fields_1 (a b c x y z : Int) (w : World)
    (ga : ∀ W, Calls Tryd.prog 96 #[.int .i64 a] W fun r w' => r = .returned (.int .i64 0) ∧ W = w')
    (gb : ∀ W, Calls Tryd.prog 96 #[.int .i64 b] W fun r w' => r = .returned (.int .i64 0) ∧ W = w')
    (gc : ∀ W, Calls Tryd.prog 96 #[.int .i64 c] W fun r w' => r = .returned (.int .i64 1) ∧ W = w')
    (ha : 0 ≤ a) (hb : 0 ≤ b) (hc : 0 ≤ c) (hx : bits .and .i64 (a / 2) 3 = x) (hy : bits .and .i64 (b / 2) 3 = y) (hz : bits .and .i64 (c / 2) 3 = z) :
    Calls Tryd.prog 95 #[.int .i64 a, .int .i64 b, .int .i64 c] w fun r w' => r = .returned (.tuple #[.int .i64 x, .int .i64 y, .int .i64 4]) ∧ w = w' := by
  have o1 : bits .or .i64 0 0 = 0 := by decide
  have o2 : bits .or .i64 0 1 = 1 := by decide
  go_enter Tryd.func95, Tryd.ntmps95
  go_wp2_with (go_at_call 96; first
    | (refine (ga _).mono ?_; rintro r w1 ⟨rfl, rfl⟩; clear ga)
    | (refine (gb _).mono ?_; rintro r w1 ⟨rfl, rfl⟩; clear gb)
    | (refine (gc _).mono ?_; rintro r w1 ⟨rfl, rfl⟩; clear gc))
  exact bodyPost_ret (by simp only [results, Tryd.results95]; go_simp) rfl ⟨rfl, rfl⟩
set_option maxHeartbeats 1000000 in
theorem fields_2 (a b c x y z : Int) (w : World)
    (ga : ∀ W, Calls Tryd.prog 96 #[.int .i64 a] W fun r w' => r = .returned (.int .i64 0) ∧ W = w')
    (gb : ∀ W, Calls Tryd.prog 96 #[.int .i64 b] W fun r w' => r = .returned (.int .i64 1) ∧ W = w')
    (gc : ∀ W, Calls Tryd.prog 96 #[.int .i64 c] W fun r w' => r = .returned (.int .i64 0) ∧ W = w')
    (ha : 0 ≤ a) (hb : 0 ≤ b) (hc : 0 ≤ c) (hx : bits .and .i64 (a / 2) 3 = x) (hy : bits .and .i64 (b / 2) 3 = y) (hz : bits .and .i64 (c / 2) 3 = z) :
    Calls Tryd.prog 95 #[.int .i64 a, .int .i64 b, .int .i64 c] w fun r w' => r = .returned (.tuple #[.int .i64 x, .int .i64 z, .int .i64 5]) ∧ w = w' := by
  have o1 : bits .or .i64 0 2 = 2 := by decide
  have o2 : bits .or .i64 2 0 = 2 := by decide
  go_enter Tryd.func95, Tryd.ntmps95
  go_wp2_with (go_at_call 96; first
    | (refine (ga _).mono ?_; rintro r w1 ⟨rfl, rfl⟩; clear ga)
    | (refine (gb _).mono ?_; rintro r w1 ⟨rfl, rfl⟩; clear gb)
    | (refine (gc _).mono ?_; rintro r w1 ⟨rfl, rfl⟩; clear gc))
  exact bodyPost_ret (by simp only [results, Tryd.results95]; go_simp) rfl ⟨rfl, rfl⟩
set_option maxHeartbeats 1000000 in
theorem fields_4 (a b c x y z : Int) (w : World)
    (ga : ∀ W, Calls Tryd.prog 96 #[.int .i64 a] W fun r w' => r = .returned (.int .i64 1) ∧ W = w')
    (gb : ∀ W, Calls Tryd.prog 96 #[.int .i64 b] W fun r w' => r = .returned (.int .i64 0) ∧ W = w')
    (gc : ∀ W, Calls Tryd.prog 96 #[.int .i64 c] W fun r w' => r = .returned (.int .i64 0) ∧ W = w')
    (ha : 0 ≤ a) (hb : 0 ≤ b) (hc : 0 ≤ c) (hx : bits .and .i64 (a / 2) 3 = x) (hy : bits .and .i64 (b / 2) 3 = y) (hz : bits .and .i64 (c / 2) 3 = z) :
    Calls Tryd.prog 95 #[.int .i64 a, .int .i64 b, .int .i64 c] w fun r w' => r = .returned (.tuple #[.int .i64 z, .int .i64 y, .int .i64 6]) ∧ w = w' := by
  have o1 : bits .or .i64 4 0 = 4 := by decide
  have o2 : bits .or .i64 4 0 = 4 := by decide
  go_enter Tryd.func95, Tryd.ntmps95
  go_wp2_with (go_at_call 96; first
    | (refine (ga _).mono ?_; rintro r w1 ⟨rfl, rfl⟩; clear ga)
    | (refine (gb _).mono ?_; rintro r w1 ⟨rfl, rfl⟩; clear gb)
    | (refine (gc _).mono ?_; rintro r w1 ⟨rfl, rfl⟩; clear gc))
  exact bodyPost_ret (by simp only [results, Tryd.results95]; go_simp) rfl ⟨rfl, rfl⟩
set_option maxHeartbeats 1000000 in
theorem fields_3 (a b c x y z : Int) (w : World)
    (ga : ∀ W, Calls Tryd.prog 96 #[.int .i64 a] W fun r w' => r = .returned (.int .i64 0) ∧ W = w')
    (gb : ∀ W, Calls Tryd.prog 96 #[.int .i64 b] W fun r w' => r = .returned (.int .i64 1) ∧ W = w')
    (gc : ∀ W, Calls Tryd.prog 96 #[.int .i64 c] W fun r w' => r = .returned (.int .i64 1) ∧ W = w')
    (ha : 0 ≤ a) (hb : 0 ≤ b) (hc : 0 ≤ c) (hx : bits .and .i64 (a / 2) 3 = x) (hy : bits .and .i64 (b / 2) 3 = y) (hz : bits .and .i64 (c / 2) 3 = z) :
    Calls Tryd.prog 95 #[.int .i64 a, .int .i64 b, .int .i64 c] w fun r w' => r = .returned (.tuple #[.int .i64 x, .int .i64 2, .int .i64 7]) ∧ w = w' := by
  have o1 : bits .or .i64 0 2 = 2 := by decide
  have o2 : bits .or .i64 2 1 = 3 := by decide
  go_enter Tryd.func95, Tryd.ntmps95
  go_wp2_with (go_at_call 96; first
    | (refine (ga _).mono ?_; rintro r w1 ⟨rfl, rfl⟩; clear ga)
    | (refine (gb _).mono ?_; rintro r w1 ⟨rfl, rfl⟩; clear gb)
    | (refine (gc _).mono ?_; rintro r w1 ⟨rfl, rfl⟩; clear gc))
  exact bodyPost_ret (by simp only [results, Tryd.results95]; go_simp) rfl ⟨rfl, rfl⟩
set_option maxHeartbeats 1000000 in
theorem fields_5 (a b c x y z : Int) (w : World)
    (ga : ∀ W, Calls Tryd.prog 96 #[.int .i64 a] W fun r w' => r = .returned (.int .i64 1) ∧ W = w')
    (gb : ∀ W, Calls Tryd.prog 96 #[.int .i64 b] W fun r w' => r = .returned (.int .i64 0) ∧ W = w')
    (gc : ∀ W, Calls Tryd.prog 96 #[.int .i64 c] W fun r w' => r = .returned (.int .i64 1) ∧ W = w')
    (ha : 0 ≤ a) (hb : 0 ≤ b) (hc : 0 ≤ c) (hx : bits .and .i64 (a / 2) 3 = x) (hy : bits .and .i64 (b / 2) 3 = y) (hz : bits .and .i64 (c / 2) 3 = z) :
    Calls Tryd.prog 95 #[.int .i64 a, .int .i64 b, .int .i64 c] w fun r w' => r = .returned (.tuple #[.int .i64 y, .int .i64 1, .int .i64 7]) ∧ w = w' := by
  have o1 : bits .or .i64 4 0 = 4 := by decide
  have o2 : bits .or .i64 4 1 = 5 := by decide
  go_enter Tryd.func95, Tryd.ntmps95
  go_wp2_with (go_at_call 96; first
    | (refine (ga _).mono ?_; rintro r w1 ⟨rfl, rfl⟩; clear ga)
    | (refine (gb _).mono ?_; rintro r w1 ⟨rfl, rfl⟩; clear gb)
    | (refine (gc _).mono ?_; rintro r w1 ⟨rfl, rfl⟩; clear gc))
  exact bodyPost_ret (by simp only [results, Tryd.results95]; go_simp) rfl ⟨rfl, rfl⟩
set_option maxHeartbeats 1000000 in
theorem fields_6 (a b c x y z : Int) (w : World)
    (ga : ∀ W, Calls Tryd.prog 96 #[.int .i64 a] W fun r w' => r = .returned (.int .i64 1) ∧ W = w')
    (gb : ∀ W, Calls Tryd.prog 96 #[.int .i64 b] W fun r w' => r = .returned (.int .i64 1) ∧ W = w')
    (gc : ∀ W, Calls Tryd.prog 96 #[.int .i64 c] W fun r w' => r = .returned (.int .i64 0) ∧ W = w')
    (ha : 0 ≤ a) (hb : 0 ≤ b) (hc : 0 ≤ c) (hx : bits .and .i64 (a / 2) 3 = x) (hy : bits .and .i64 (b / 2) 3 = y) (hz : bits .and .i64 (c / 2) 3 = z) :
    Calls Tryd.prog 95 #[.int .i64 a, .int .i64 b, .int .i64 c] w fun r w' => r = .returned (.tuple #[.int .i64 z, .int .i64 0, .int .i64 7]) ∧ w = w' := by
  have o1 : bits .or .i64 4 2 = 6 := by decide
  have o2 : bits .or .i64 6 0 = 6 := by decide
  go_enter Tryd.func95, Tryd.ntmps95
  go_wp2_with (go_at_call 96; first
    | (refine (ga _).mono ?_; rintro r w1 ⟨rfl, rfl⟩; clear ga)
    | (refine (gb _).mono ?_; rintro r w1 ⟨rfl, rfl⟩; clear gb)
    | (refine (gc _).mono ?_; rintro r w1 ⟨rfl, rfl⟩; clear gc))
  exact bodyPost_ret (by simp only [results, Tryd.results95]; go_simp) rfl ⟨rfl, rfl⟩
set_option maxHeartbeats 1000000 in
theorem fields_7 (a b c x y z : Int) (w : World)
    (ga : ∀ W, Calls Tryd.prog 96 #[.int .i64 a] W fun r w' => r = .returned (.int .i64 1) ∧ W = w')
    (gb : ∀ W, Calls Tryd.prog 96 #[.int .i64 b] W fun r w' => r = .returned (.int .i64 1) ∧ W = w')
    (gc : ∀ W, Calls Tryd.prog 96 #[.int .i64 c] W fun r w' => r = .returned (.int .i64 1) ∧ W = w')
    (ha : 0 ≤ a) (hb : 0 ≤ b) (hc : 0 ≤ c) (hx : bits .and .i64 (a / 2) 3 = x) (hy : bits .and .i64 (b / 2) 3 = y) (hz : bits .and .i64 (c / 2) 3 = z) :
    Calls Tryd.prog 95 #[.int .i64 a, .int .i64 b, .int .i64 c] w fun r w' => r = .returned (.tuple #[.int .i64 0, .int .i64 3, .int .i64 7]) ∧ w = w' := by
  have o1 : bits .or .i64 4 2 = 6 := by decide
  have o2 : bits .or .i64 6 1 = 7 := by decide
  go_enter Tryd.func95, Tryd.ntmps95
  go_wp2_with (go_at_call 96; first
    | (refine (ga _).mono ?_; rintro r w1 ⟨rfl, rfl⟩; clear ga)
    | (refine (gb _).mono ?_; rintro r w1 ⟨rfl, rfl⟩; clear gb)
    | (refine (gc _).mono ?_; rintro r w1 ⟨rfl, rfl⟩; clear gc))
  exact bodyPost_ret (by simp only [results, Tryd.results95]; go_simp) rfl ⟨rfl, rfl⟩
/-- what two great digits or all of them mean -/
def mgT (p s : Int) : Int × Int × Int := if s = 2 then (p * 2, 8, 8) else if s = 1 then (8, p * 2, 8) else if s = 0 then (8, 8, p * 2) else (8, 8, 8)
set_option maxHeartbeats 1000000 in
theorem mgr_v (p s : Int) (w : World) (hp : 0 ≤ p ∧ p < 4) (hs : 0 ≤ s ∧ s < 4) :
    Calls Tryd.prog 94 #[.int .i64 p, .int .i64 s] w fun r w' => r = .returned (.tuple #[.int .i64 (mgT p s).1, .int .i64 (mgT p s).2.1, .int .i64 (mgT p s).2.2]) ∧ w = w' := by
  obtain rfl | rfl | rfl | rfl : s = 0 ∨ s = 1 ∨ s = 2 ∨ s = 3 := by omega
  all_goals (
    go_enter Tryd.func94, Tryd.ntmps94
    go_wp2
    exact bodyPost_ret (by simp only [results, Tryd.results94]; go_simp; first | done | exact ⟨rfl, rfl, rfl⟩) rfl ⟨rfl, rfl⟩)
/-- the digits that fields mean, without their lowest bits -/
def evT (p s v : Int) : Int × Int × Int := if v = 4 then (p * 2, s * 2, 8) else if v = 5 then (p * 2, 8, s * 2) else if v = 6 then (8, s * 2, p * 2) else if v = 7 then mgT p s else (p * 2, s * 2, v * 2)
set_option maxHeartbeats 1000000 in
theorem ev_7 (p s x y z : Int) (w : World)
    (cm : ∀ W, Calls Tryd.prog 94 #[.int .i64 p, .int .i64 s] W fun r w' => r = .returned (.tuple #[.int .i64 x, .int .i64 y, .int .i64 z]) ∧ W = w') :
    Calls Tryd.prog 91 #[.int .i64 p, .int .i64 s, .int .i64 7] w fun r w' => r = .returned (.tuple #[.int .i64 x, .int .i64 y, .int .i64 z]) ∧ w = w' := by
  go_enter Tryd.func91, Tryd.ntmps91
  go_wp2_with (go_at_call 94; refine (cm _).mono ?_; rintro r w1 ⟨rfl, rfl⟩)
  exact bodyPost_ret (by simp only [results, Tryd.results91]; go_simp; first | done | exact ⟨rfl, rfl, rfl⟩) rfl ⟨rfl, rfl⟩
set_option maxHeartbeats 1000000 in
theorem evens_v (p s v : Int) (w : World) (hp : 0 ≤ p ∧ p < 4) (hs : 0 ≤ s ∧ s < 4) (hv : 0 ≤ v ∧ v < 8) :
    Calls Tryd.prog 91 #[.int .i64 p, .int .i64 s, .int .i64 v] w fun r w' => r = .returned (.tuple #[.int .i64 (evT p s v).1, .int .i64 (evT p s v).2.1, .int .i64 (evT p s v).2.2]) ∧ w = w' := by
  by_cases h7 : v = 7
  · subst h7
    exact ev_7 p s _ _ _ w (fun W => mgr_v p s W hp hs)
  by_cases h4 : v = 4
  · subst h4
    go_enter Tryd.func91, Tryd.ntmps91
    go_wp2
    exact bodyPost_ret (by simp only [results, Tryd.results91]; go_simp; first | done | exact ⟨rfl, rfl, rfl⟩) rfl ⟨rfl, rfl⟩
  by_cases h5 : v = 5
  · subst h5
    go_enter Tryd.func91, Tryd.ntmps91
    go_wp2
    exact bodyPost_ret (by simp only [results, Tryd.results91]; go_simp; first | done | exact ⟨rfl, rfl, rfl⟩) rfl ⟨rfl, rfl⟩
  by_cases h6 : v = 6
  · subst h6
    go_enter Tryd.func91, Tryd.ntmps91
    go_wp2
    exact bodyPost_ret (by simp only [results, Tryd.results91]; go_simp; first | done | exact ⟨rfl, rfl, rfl⟩) rfl ⟨rfl, rfl⟩
  have e : evT p s v = (p * 2, s * 2, v * 2) := by
    unfold evT
    rw [if_neg h4, if_neg h5, if_neg h6, if_neg h7]
  rw [e]
  have b4 : (v == 4) = false := by simp [h4]
  have b5 : (v == 5) = false := by simp [h5]
  have b6 : (v == 6) = false := by simp [h6]
  have b7 : (v == 7) = false := by simp [h7]
  go_enter Tryd.func91, Tryd.ntmps91
  go_wp2
  exact bodyPost_ret (by simp only [results, Tryd.results91]; go_simp; first | done | exact ⟨rfl, rfl, rfl⟩) rfl ⟨rfl, rfl⟩
end
end Go.Proofs.YtehgnckgmdkfmaaDoor
