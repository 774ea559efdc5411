/-
  Texts that the proof leans on.
-/
import Derived.Test.YtgknbdehlmlipaaDoorJ16
import Derived.Test.YtgknbdehlmlipaaDoorJ21
set_option linter.unusedVariables false
set_option linter.unusedSectionVars false
set_option linter.unusedSimpArgs false
set_option maxRecDepth 20000
namespace Go.Proofs.YtgknbdehlmlipaaDoor
open Go.RowKit
set_option maxHeartbeats 400000 in
theorem great_v (x g : Int) (hx : 0 ≤ x) (hg : x / 8 = g) (w : World) : Calls Tryd.prog 88 #[.int .i64 x] w fun r w' => r = .returned (.int .i64 g) ∧ w = w' := by
  go_enter Tryd.func88, Tryd.ntmps88
  go_wp2
  go_ret
  exact ⟨rfl, rfl⟩
set_option maxHeartbeats 400000 in
theorem known_v (n : Int) (w : World) : Calls Tryd.prog 78 #[.int .i64 n] w fun r w' => r = .returned (.bool (decide (0 ≤ n ∧ n ≤ 11))) ∧ w = w' := by
  by_cases h0 : 0 ≤ n
  · go_enter Tryd.func78, Tryd.ntmps78
    go_wp2
    go_ret
    exact ⟨by simp [h0], rfl⟩
  · rw [decide_eq_false (fun h => h0 h.1)]
    go_enter Tryd.func78, Tryd.ntmps78
    go_wp2
    go_ret
    exact ⟨rfl, rfl⟩
set_option maxHeartbeats 1000000 in
theorem fields_0 (a b c x y z : Int) (w : World)
    (ga : ∀ W, Calls Tryd.prog 88 #[.int .i64 a] W fun r w' => r = .returned (.int .i64 0) ∧ W = w')
    (gb : ∀ W, Calls Tryd.prog 88 #[.int .i64 b] W fun r w' => r = .returned (.int .i64 0) ∧ W = w')
    (gc : ∀ W, Calls Tryd.prog 88 #[.int .i64 c] W fun r w' => r = .returned (.int .i64 0) ∧ W = w')
    (ha : 0 ≤ a) (hb : 0 ≤ b) (hc : 0 ≤ c) (hx : bits .and .i64 (a / 2) 3 = x) (hy : bits .and .i64 (b / 2) 3 = y) (hz : bits .and .i64 (c / 2) 3 = z) :
    Calls Tryd.prog 86 #[.int .i64 a, .int .i64 b, .int .i64 c] w fun r w' => r = .returned (.tuple #[.int .i64 x, .int .i64 y, .int .i64 z]) ∧ w = w' := by
  have o1 : bits .or .i64 0 0 = 0 := by decide
  have o2 : bits .or .i64 0 0 = 0 := by decide
  go_enter Tryd.func86, Tryd.ntmps86
  go_wp2_with (go_at_call 88; first
    | (refine (ga _).mono ?_; rintro r w1 ⟨rfl, rfl⟩; clear ga)
    | (refine (gb _).mono ?_; rintro r w1 ⟨rfl, rfl⟩; clear gb)
    | (refine (gc _).mono ?_; rintro r w1 ⟨rfl, rfl⟩; clear gc))
  exact bodyPost_ret (by simp only [results, Tryd.results86]; go_simp) rfl ⟨rfl, rfl⟩
set_option maxHeartbeats 1000000 in
theorem fields_1 (a b c x y z : Int) (w : World)
    (ga : ∀ W, Calls Tryd.prog 88 #[.int .i64 a] W fun r w' => r = .returned (.int .i64 0) ∧ W = w')
    (gb : ∀ W, Calls Tryd.prog 88 #[.int .i64 b] W fun r w' => r = .returned (.int .i64 0) ∧ W = w')
    (gc : ∀ W, Calls Tryd.prog 88 #[.int .i64 c] W fun r w' => r = .returned (.int .i64 1) ∧ W = w')
    (ha : 0 ≤ a) (hb : 0 ≤ b) (hc : 0 ≤ c) (hx : bits .and .i64 (a / 2) 3 = x) (hy : bits .and .i64 (b / 2) 3 = y) (hz : bits .and .i64 (c / 2) 3 = z) :
    Calls Tryd.prog 86 #[.int .i64 a, .int .i64 b, .int .i64 c] w fun r w' => r = .returned (.tuple #[.int .i64 x, .int .i64 y, .int .i64 4]) ∧ w = w' := by
  have o1 : bits .or .i64 0 0 = 0 := by decide
  have o2 : bits .or .i64 0 1 = 1 := by decide
  go_enter Tryd.func86, Tryd.ntmps86
  go_wp2_with (go_at_call 88; first
    | (refine (ga _).mono ?_; rintro r w1 ⟨rfl, rfl⟩; clear ga)
    | (refine (gb _).mono ?_; rintro r w1 ⟨rfl, rfl⟩; clear gb)
    | (refine (gc _).mono ?_; rintro r w1 ⟨rfl, rfl⟩; clear gc))
  exact bodyPost_ret (by simp only [results, Tryd.results86]; go_simp) rfl ⟨rfl, rfl⟩
set_option maxHeartbeats 1000000 in
theorem fields_2 (a b c x y z : Int) (w : World)
    (ga : ∀ W, Calls Tryd.prog 88 #[.int .i64 a] W fun r w' => r = .returned (.int .i64 0) ∧ W = w')
    (gb : ∀ W, Calls Tryd.prog 88 #[.int .i64 b] W fun r w' => r = .returned (.int .i64 1) ∧ W = w')
    (gc : ∀ W, Calls Tryd.prog 88 #[.int .i64 c] W fun r w' => r = .returned (.int .i64 0) ∧ W = w')
    (ha : 0 ≤ a) (hb : 0 ≤ b) (hc : 0 ≤ c) (hx : bits .and .i64 (a / 2) 3 = x) (hy : bits .and .i64 (b / 2) 3 = y) (hz : bits .and .i64 (c / 2) 3 = z) :
    Calls Tryd.prog 86 #[.int .i64 a, .int .i64 b, .int .i64 c] w fun r w' => r = .returned (.tuple #[.int .i64 x, .int .i64 z, .int .i64 5]) ∧ w = w' := by
  have o1 : bits .or .i64 0 2 = 2 := by decide
  have o2 : bits .or .i64 2 0 = 2 := by decide
  go_enter Tryd.func86, Tryd.ntmps86
  go_wp2_with (go_at_call 88; first
    | (refine (ga _).mono ?_; rintro r w1 ⟨rfl, rfl⟩; clear ga)
    | (refine (gb _).mono ?_; rintro r w1 ⟨rfl, rfl⟩; clear gb)
    | (refine (gc _).mono ?_; rintro r w1 ⟨rfl, rfl⟩; clear gc))
  exact bodyPost_ret (by simp only [results, Tryd.results86]; go_simp) rfl ⟨rfl, rfl⟩
set_option maxHeartbeats 1000000 in
theorem fields_4 (a b c x y z : Int) (w : World)
    (ga : ∀ W, Calls Tryd.prog 88 #[.int .i64 a] W fun r w' => r = .returned (.int .i64 1) ∧ W = w')
    (gb : ∀ W, Calls Tryd.prog 88 #[.int .i64 b] W fun r w' => r = .returned (.int .i64 0) ∧ W = w')
    (gc : ∀ W, Calls Tryd.prog 88 #[.int .i64 c] W fun r w' => r = .returned (.int .i64 0) ∧ W = w')
    (ha : 0 ≤ a) (hb : 0 ≤ b) (hc : 0 ≤ c) (hx : bits .and .i64 (a / 2) 3 = x) (hy : bits .and .i64 (b / 2) 3 = y) (hz : bits .and .i64 (c / 2) 3 = z) :
    Calls Tryd.prog 86 #[.int .i64 a, .int .i64 b, .int .i64 c] w fun r w' => r = .returned (.tuple #[.int .i64 z, .int .i64 y, .int .i64 6]) ∧ w = w' := by
  have o1 : bits .or .i64 4 0 = 4 := by decide
  have o2 : bits .or .i64 4 0 = 4 := by decide
  go_enter Tryd.func86, Tryd.ntmps86
  go_wp2_with (go_at_call 88; first
    | (refine (ga _).mono ?_; rintro r w1 ⟨rfl, rfl⟩; clear ga)
    | (refine (gb _).mono ?_; rintro r w1 ⟨rfl, rfl⟩; clear gb)
    | (refine (gc _).mono ?_; rintro r w1 ⟨rfl, rfl⟩; clear gc))
  exact bodyPost_ret (by simp only [results, Tryd.results86]; go_simp) rfl ⟨rfl, rfl⟩
set_option maxHeartbeats 1000000 in
theorem fields_3 (a b c x y z : Int) (w : World)
    (ga : ∀ W, Calls Tryd.prog 88 #[.int .i64 a] W fun r w' => r = .returned (.int .i64 0) ∧ W = w')
    (gb : ∀ W, Calls Tryd.prog 88 #[.int .i64 b] W fun r w' => r = .returned (.int .i64 1) ∧ W = w')
    (gc : ∀ W, Calls Tryd.prog 88 #[.int .i64 c] W fun r w' => r = .returned (.int .i64 1) ∧ W = w')
    (ha : 0 ≤ a) (hb : 0 ≤ b) (hc : 0 ≤ c) (hx : bits .and .i64 (a / 2) 3 = x) (hy : bits .and .i64 (b / 2) 3 = y) (hz : bits .and .i64 (c / 2) 3 = z) :
    Calls Tryd.prog 86 #[.int .i64 a, .int .i64 b, .int .i64 c] w fun r w' => r = .returned (.tuple #[.int .i64 x, .int .i64 2, .int .i64 7]) ∧ w = w' := by
  have o1 : bits .or .i64 0 2 = 2 := by decide
  have o2 : bits .or .i64 2 1 = 3 := by decide
  go_enter Tryd.func86, Tryd.ntmps86
  go_wp2_with (go_at_call 88; first
    | (refine (ga _).mono ?_; rintro r w1 ⟨rfl, rfl⟩; clear ga)
    | (refine (gb _).mono ?_; rintro r w1 ⟨rfl, rfl⟩; clear gb)
    | (refine (gc _).mono ?_; rintro r w1 ⟨rfl, rfl⟩; clear gc))
  exact bodyPost_ret (by simp only [results, Tryd.results86]; go_simp) rfl ⟨rfl, rfl⟩
set_option maxHeartbeats 1000000 in
theorem fields_5 (a b c x y z : Int) (w : World)
    (ga : ∀ W, Calls Tryd.prog 88 #[.int .i64 a] W fun r w' => r = .returned (.int .i64 1) ∧ W = w')
    (gb : ∀ W, Calls Tryd.prog 88 #[.int .i64 b] W fun r w' => r = .returned (.int .i64 0) ∧ W = w')
    (gc : ∀ W, Calls Tryd.prog 88 #[.int .i64 c] W fun r w' => r = .returned (.int .i64 1) ∧ W = w')
    (ha : 0 ≤ a) (hb : 0 ≤ b) (hc : 0 ≤ c) (hx : bits .and .i64 (a / 2) 3 = x) (hy : bits .and .i64 (b / 2) 3 = y) (hz : bits .and .i64 (c / 2) 3 = z) :
    Calls Tryd.prog 86 #[.int .i64 a, .int .i64 b, .int .i64 c] w fun r w' => r = .returned (.tuple #[.int .i64 y, .int .i64 1, .int .i64 7]) ∧ w = w' := by
  have o1 : bits .or .i64 4 0 = 4 := by decide
  have o2 : bits .or .i64 4 1 = 5 := by decide
  go_enter Tryd.func86, Tryd.ntmps86
  go_wp2_with (go_at_call 88; first
    | (refine (ga _).mono ?_; rintro r w1 ⟨rfl, rfl⟩; clear ga)
    | (refine (gb _).mono ?_; rintro r w1 ⟨rfl, rfl⟩; clear gb)
    | (refine (gc _).mono ?_; rintro r w1 ⟨rfl, rfl⟩; clear gc))
  exact bodyPost_ret (by simp only [results, Tryd.results86]; go_simp) rfl ⟨rfl, rfl⟩
set_option maxHeartbeats 1000000 in
theorem fields_6 (a b c x y z : Int) (w : World)
    (ga : ∀ W, Calls Tryd.prog 88 #[.int .i64 a] W fun r w' => r = .returned (.int .i64 1) ∧ W = w')
    (gb : ∀ W, Calls Tryd.prog 88 #[.int .i64 b] W fun r w' => r = .returned (.int .i64 1) ∧ W = w')
    (gc : ∀ W, Calls Tryd.prog 88 #[.int .i64 c] W fun r w' => r = .returned (.int .i64 0) ∧ W = w')
    (ha : 0 ≤ a) (hb : 0 ≤ b) (hc : 0 ≤ c) (hx : bits .and .i64 (a / 2) 3 = x) (hy : bits .and .i64 (b / 2) 3 = y) (hz : bits .and .i64 (c / 2) 3 = z) :
    Calls Tryd.prog 86 #[.int .i64 a, .int .i64 b, .int .i64 c] w fun r w' => r = .returned (.tuple #[.int .i64 z, .int .i64 0, .int .i64 7]) ∧ w = w' := by
  have o1 : bits .or .i64 4 2 = 6 := by decide
  have o2 : bits .or .i64 6 0 = 6 := by decide
  go_enter Tryd.func86, Tryd.ntmps86
  go_wp2_with (go_at_call 88; first
    | (refine (ga _).mono ?_; rintro r w1 ⟨rfl, rfl⟩; clear ga)
    | (refine (gb _).mono ?_; rintro r w1 ⟨rfl, rfl⟩; clear gb)
    | (refine (gc _).mono ?_; rintro r w1 ⟨rfl, rfl⟩; clear gc))
  exact bodyPost_ret (by simp only [results, Tryd.results86]; go_simp) rfl ⟨rfl, rfl⟩
set_option maxHeartbeats 1000000 in
theorem fields_7 (a b c x y z : Int) (w : World)
    (ga : ∀ W, Calls Tryd.prog 88 #[.int .i64 a] W fun r w' => r = .returned (.int .i64 1) ∧ W = w')
    (gb : ∀ W, Calls Tryd.prog 88 #[.int .i64 b] W fun r w' => r = .returned (.int .i64 1) ∧ W = w')
    (gc : ∀ W, Calls Tryd.prog 88 #[.int .i64 c] W fun r w' => r = .returned (.int .i64 1) ∧ W = w')
    (ha : 0 ≤ a) (hb : 0 ≤ b) (hc : 0 ≤ c) (hx : bits .and .i64 (a / 2) 3 = x) (hy : bits .and .i64 (b / 2) 3 = y) (hz : bits .and .i64 (c / 2) 3 = z) :
    Calls Tryd.prog 86 #[.int .i64 a, .int .i64 b, .int .i64 c] w fun r w' => r = .returned (.tuple #[.int .i64 0, .int .i64 3, .int .i64 7]) ∧ w = w' := by
  have o1 : bits .or .i64 4 2 = 6 := by decide
  have o2 : bits .or .i64 6 1 = 7 := by decide
  go_enter Tryd.func86, Tryd.ntmps86
  go_wp2_with (go_at_call 88; first
    | (refine (ga _).mono ?_; rintro r w1 ⟨rfl, rfl⟩; clear ga)
    | (refine (gb _).mono ?_; rintro r w1 ⟨rfl, rfl⟩; clear gb)
    | (refine (gc _).mono ?_; rintro r w1 ⟨rfl, rfl⟩; clear gc))
  exact bodyPost_ret (by simp only [results, Tryd.results86]; go_simp) rfl ⟨rfl, rfl⟩
/-- what two great digits or all of them mean -/
def mgT (p s : Int) : Int × Int × Int := if s = 2 then (p * 2, 8, 8) else if s = 1 then (8, p * 2, 8) else if s = 0 then (8, 8, p * 2) else (8, 8, 8)
set_option maxHeartbeats 1000000 in
theorem mgr_v (p s : Int) (w : World) (hp : 0 ≤ p ∧ p < 4) (hs : 0 ≤ s ∧ s < 4) :
    Calls Tryd.prog 84 #[.int .i64 p, .int .i64 s] w fun r w' => r = .returned (.tuple #[.int .i64 (mgT p s).1, .int .i64 (mgT p s).2.1, .int .i64 (mgT p s).2.2]) ∧ w = w' := by
  obtain rfl | rfl | rfl | rfl : s = 0 ∨ s = 1 ∨ s = 2 ∨ s = 3 := by omega
  all_goals (
    go_enter Tryd.func84, Tryd.ntmps84
    go_wp2
    exact bodyPost_ret (by simp only [results, Tryd.results84]; go_simp; first | done | exact ⟨rfl, rfl, rfl⟩) rfl ⟨rfl, rfl⟩)
/-- the digits that fields mean, without their lowest bits -/
def evT (p s v : Int) : Int × Int × Int := if v = 4 then (p * 2, s * 2, 8) else if v = 5 then (p * 2, 8, s * 2) else if v = 6 then (8, s * 2, p * 2) else if v = 7 then mgT p s else (p * 2, s * 2, v * 2)
set_option maxHeartbeats 1000000 in
theorem ev_7 (p s x y z : Int) (w : World)
    (cm : ∀ W, Calls Tryd.prog 84 #[.int .i64 p, .int .i64 s] W fun r w' => r = .returned (.tuple #[.int .i64 x, .int .i64 y, .int .i64 z]) ∧ W = w') :
    Calls Tryd.prog 81 #[.int .i64 p, .int .i64 s, .int .i64 7] w fun r w' => r = .returned (.tuple #[.int .i64 x, .int .i64 y, .int .i64 z]) ∧ w = w' := by
  go_enter Tryd.func81, Tryd.ntmps81
  go_wp2_with (go_at_call 84; refine (cm _).mono ?_; rintro r w1 ⟨rfl, rfl⟩)
  exact bodyPost_ret (by simp only [results, Tryd.results81]; go_simp; first | done | exact ⟨rfl, rfl, rfl⟩) rfl ⟨rfl, rfl⟩
set_option maxHeartbeats 1000000 in
theorem evens_v (p s v : Int) (w : World) (hp : 0 ≤ p ∧ p < 4) (hs : 0 ≤ s ∧ s < 4) (hv : 0 ≤ v ∧ v < 8) :
    Calls Tryd.prog 81 #[.int .i64 p, .int .i64 s, .int .i64 v] w fun r w' => r = .returned (.tuple #[.int .i64 (evT p s v).1, .int .i64 (evT p s v).2.1, .int .i64 (evT p s v).2.2]) ∧ w = w' := by
  by_cases h7 : v = 7
  · subst h7
    exact ev_7 p s _ _ _ w (fun W => mgr_v p s W hp hs)
  by_cases h4 : v = 4
  · subst h4
    go_enter Tryd.func81, Tryd.ntmps81
    go_wp2
    exact bodyPost_ret (by simp only [results, Tryd.results81]; go_simp; first | done | exact ⟨rfl, rfl, rfl⟩) rfl ⟨rfl, rfl⟩
  by_cases h5 : v = 5
  · subst h5
    go_enter Tryd.func81, Tryd.ntmps81
    go_wp2
    exact bodyPost_ret (by simp only [results, Tryd.results81]; go_simp; first | done | exact ⟨rfl, rfl, rfl⟩) rfl ⟨rfl, rfl⟩
  by_cases h6 : v = 6
  · subst h6
    go_enter Tryd.func81, Tryd.ntmps81
    go_wp2
    exact bodyPost_ret (by simp only [results, Tryd.results81]; go_simp; first | done | exact ⟨rfl, rfl, rfl⟩) rfl ⟨rfl, rfl⟩
  have e : evT p s v = (p * 2, s * 2, v * 2) := by
    unfold evT
    rw [if_neg h4, if_neg h5, if_neg h6, if_neg h7]
  rw [e]
  have b4 : (v == 4) = false := by simp [h4]
  have b5 : (v == 5) = false := by simp [h5]
  have b6 : (v == 6) = false := by simp [h6]
  have b7 : (v == 7) = false := by simp [h7]
  go_enter Tryd.func81, Tryd.ntmps81
  go_wp2
  exact bodyPost_ret (by simp only [results, Tryd.results81]; go_simp; first | done | exact ⟨rfl, rfl, rfl⟩) rfl ⟨rfl, rfl⟩
end Go.Proofs.YtgknbdehlmlipaaDoor

namespace Go.Proofs.YtgknbdehlmlipaaDoor
open Go.RowKit

/-- a declet's fields, by its digits -/
def fdT (a b c : Int) : Int × Int × Int :=
  if a / 8 = 0 then
    if b / 8 = 0 then (if c / 8 = 0 then (bits .and .i64 (a / 2) 3, bits .and .i64 (b / 2) 3, bits .and .i64 (c / 2) 3) else (bits .and .i64 (a / 2) 3, bits .and .i64 (b / 2) 3, 4))
    else (if c / 8 = 0 then (bits .and .i64 (a / 2) 3, bits .and .i64 (c / 2) 3, 5) else (bits .and .i64 (a / 2) 3, 2, 7))
  else
    if b / 8 = 0 then (if c / 8 = 0 then (bits .and .i64 (c / 2) 3, bits .and .i64 (b / 2) 3, 6) else (bits .and .i64 (b / 2) 3, 1, 7))
    else (if c / 8 = 0 then (bits .and .i64 (c / 2) 3, 0, 7) else (0, 3, 7))
theorem fields_v (a b c : Int) (w : World) (ha : 0 ≤ a ∧ a ≤ 9) (hb : 0 ≤ b ∧ b ≤ 9) (hc : 0 ≤ c ∧ c ≤ 9) :
    Calls Tryd.prog 86 #[.int .i64 a, .int .i64 b, .int .i64 c] w fun r w' => r = .returned (.tuple #[.int .i64 (fdT a b c).1, .int .i64 (fdT a b c).2.1, .int .i64 (fdT a b c).2.2]) ∧ w = w' := by
  unfold fdT
  by_cases h1 : a / 8 = 0
  · rw [if_pos h1]
    by_cases h2 : b / 8 = 0
    · rw [if_pos h2]
      by_cases h3 : c / 8 = 0
      · rw [if_pos h3]
        exact fields_0 a b c _ _ _ w (fun W => great_v a 0 ha.1 h1 W) (fun W => great_v b 0 hb.1 h2 W) (fun W => great_v c 0 hc.1 h3 W) ha.1 hb.1 hc.1 rfl rfl rfl
      · rw [if_neg h3]
        exact fields_1 a b c _ _ _ w (fun W => great_v a 0 ha.1 h1 W) (fun W => great_v b 0 hb.1 h2 W) (fun W => great_v c 1 hc.1 (by omega) W) ha.1 hb.1 hc.1 rfl rfl rfl
    · rw [if_neg h2]
      by_cases h3 : c / 8 = 0
      · rw [if_pos h3]
        exact fields_2 a b c _ _ _ w (fun W => great_v a 0 ha.1 h1 W) (fun W => great_v b 1 hb.1 (by omega) W) (fun W => great_v c 0 hc.1 h3 W) ha.1 hb.1 hc.1 rfl rfl rfl
      · rw [if_neg h3]
        exact fields_3 a b c _ _ _ w (fun W => great_v a 0 ha.1 h1 W) (fun W => great_v b 1 hb.1 (by omega) W) (fun W => great_v c 1 hc.1 (by omega) W) ha.1 hb.1 hc.1 rfl rfl rfl
  · rw [if_neg h1]
    by_cases h2 : b / 8 = 0
    · rw [if_pos h2]
      by_cases h3 : c / 8 = 0
      · rw [if_pos h3]
        exact fields_4 a b c _ _ _ w (fun W => great_v a 1 ha.1 (by omega) W) (fun W => great_v b 0 hb.1 h2 W) (fun W => great_v c 0 hc.1 h3 W) ha.1 hb.1 hc.1 rfl rfl rfl
      · rw [if_neg h3]
        exact fields_5 a b c _ _ _ w (fun W => great_v a 1 ha.1 (by omega) W) (fun W => great_v b 0 hb.1 h2 W) (fun W => great_v c 1 hc.1 (by omega) W) ha.1 hb.1 hc.1 rfl rfl rfl
    · rw [if_neg h2]
      by_cases h3 : c / 8 = 0
      · rw [if_pos h3]
        exact fields_6 a b c _ _ _ w (fun W => great_v a 1 ha.1 (by omega) W) (fun W => great_v b 1 hb.1 (by omega) W) (fun W => great_v c 0 hc.1 h3 W) ha.1 hb.1 hc.1 rfl rfl rfl
      · rw [if_neg h3]
        exact fields_7 a b c _ _ _ w (fun W => great_v a 1 ha.1 (by omega) W) (fun W => great_v b 1 hb.1 (by omega) W) (fun W => great_v c 1 hc.1 (by omega) W) ha.1 hb.1 hc.1 rfl rfl rfl
/-- bits side by side: a declet -/
def dcT (a b c : Int) : Int := bits .or .i64 (bits .or .i64 (bits .or .i64 (bits .or .i64 (bits .or .i64 ((fdT a b c).1 * 256) (bits .and .i64 a 1 * 128)) ((fdT a b c).2.1 * 32)) (bits .and .i64 b 1 * 16)) ((fdT a b c).2.2 * 2)) (bits .and .i64 c 1)
theorem dc_all (n : Nat) (hn : n < 1000) : dcT ((n : Int) / 100) ((n : Int) / 10 % 10) ((n : Int) % 10) = (dlE n : Int) ∧ (0 ≤ (fdT ((n : Int) / 100) ((n : Int) / 10 % 10) ((n : Int) % 10)).1 ∧ (fdT ((n : Int) / 100) ((n : Int) / 10 % 10) ((n : Int) % 10)).1 < 4) ∧ (0 ≤ (fdT ((n : Int) / 100) ((n : Int) / 10 % 10) ((n : Int) % 10)).2.1 ∧ (fdT ((n : Int) / 100) ((n : Int) / 10 % 10) ((n : Int) % 10)).2.1 < 4) ∧ (0 ≤ (fdT ((n : Int) / 100) ((n : Int) / 10 % 10) ((n : Int) % 10)).2.2 ∧ (fdT ((n : Int) / 100) ((n : Int) / 10 % 10) ((n : Int) % 10)).2.2 < 8) := by
  have h := upTo_all (f := fun n => decide (dcT ((n : Int) / 100) ((n : Int) / 10 % 10) ((n : Int) % 10) = (dlE n : Int) ∧ (0 ≤ (fdT ((n : Int) / 100) ((n : Int) / 10 % 10) ((n : Int) % 10)).1 ∧ (fdT ((n : Int) / 100) ((n : Int) / 10 % 10) ((n : Int) % 10)).1 < 4) ∧ (0 ≤ (fdT ((n : Int) / 100) ((n : Int) / 10 % 10) ((n : Int) % 10)).2.1 ∧ (fdT ((n : Int) / 100) ((n : Int) / 10 % 10) ((n : Int) % 10)).2.1 < 4) ∧ (0 ≤ (fdT ((n : Int) / 100) ((n : Int) / 10 % 10) ((n : Int) % 10)).2.2 ∧ (fdT ((n : Int) / 100) ((n : Int) / 10 % 10) ((n : Int) % 10)).2.2 < 8))) (m := 1000) (by decide +kernel) n hn
  exact of_decide_eq_true h
theorem and_low (n : Nat) (hn : n < 1024) : bits .and .i64 (n : Int) 1 = ((n % 2 : Nat) : Int) := by
  have h := upTo_all (f := fun n => decide (bits .and .i64 (n : Int) 1 = ((n % 2 : Nat) : Int))) (m := 1024) (by decide +kernel) n hn
  exact of_decide_eq_true h
section
variable (n a b c P S V x y z R : Int) (w : World) (h0 : ¬ n < 0) (h9 : ¬ 1000 ≤ n) (ea : n / 100 = a) (eb : n / 10 % 10 = b) (ec : n % 10 = c)
  (cf : ∀ W, Calls Tryd.prog 86 #[.int .i64 a, .int .i64 b, .int .i64 c] W fun r w' => r = .returned (.tuple #[.int .i64 P, .int .i64 S, .int .i64 V]) ∧ W = w')
  (hP0 : 0 ≤ P) (hP1 : P < 4) (hS0 : 0 ≤ S) (hS1 : S < 4) (hV0 : 0 ≤ V) (hV1 : V < 8)
  (hx : bits .and .i64 a 1 = x) (hy : bits .and .i64 b 1 = y) (hz : bits .and .i64 c 1 = z) (hx0 : 0 ≤ x) (hx1 : x < 2) (hy0 : 0 ≤ y) (hy1 : y < 2)
  (hR : bits .or .i64 (bits .or .i64 (bits .or .i64 (bits .or .i64 (bits .or .i64 (P * 256) (x * 128)) (S * 32)) (y * 16)) (V * 2)) z = R)
include h0 h9 ea eb ec cf hP0 hP1 hS0 hS1 hV0 hV1 hx hy hz hx0 hx1 hy0 hy1 hR
set_option maxHeartbeats 1000000 in
theorem denc_w : Calls Tryd.prog 83 #[.int .i64 n] w fun r w' => r = .returned (.tuple #[.int .i64 R, .int .i64 0]) ∧ w = w' := by
  go_enter Tryd.func83, Tryd.ntmps83
  go_wp2_with (go_at_call 86; refine (cf _).mono ?_; rintro r w1 ⟨rfl, rfl⟩)
  exact bodyPost_ret (by simp only [results, Tryd.results83]; go_simp) rfl ⟨rfl, rfl⟩
end
theorem denc_v (n : Nat) (hn : n < 1000) (w : World) : Calls Tryd.prog 83 #[.int .i64 (n : Int)] w fun r w' => r = .returned (.tuple #[.int .i64 (dlE n : Int), .int .i64 0]) ∧ w = w' := by
  obtain ⟨hR, ⟨p0, p1⟩, ⟨s0, s1⟩, ⟨v0, v1⟩⟩ := dc_all n hn
  unfold dcT at hR
  have la := and_low (n / 100) (by omega)
  have lb := and_low (n / 10 % 10) (by omega)
  rw [show ((n / 100 : Nat) : Int) = (n : Int) / 100 by omega] at la
  rw [show ((n / 10 % 10 : Nat) : Int) = (n : Int) / 10 % 10 by omega] at lb
  exact denc_w (n : Int) _ _ _ _ _ _ _ _ _ _ w (by omega) (by omega) rfl rfl rfl (fun W => fields_v _ _ _ W (by omega) (by omega) (by omega)) p0 p1 s0 s1 v0 v1 rfl rfl rfl (by rw [la]; omega) (by rw [la]; omega) (by rw [lb]; omega) (by rw [lb]; omega) hR
/-- what a declet means, as the code reckons it -/
def dmT (d : Nat) : Int := 100 * bits .or .i64 (evT ((d : Int) / 256) (bits .and .i64 ((d : Int) / 32) 3) (bits .and .i64 ((d : Int) / 2) 7)).1 (bits .and .i64 ((d : Int) / 128) 1) + 10 * bits .or .i64 (evT ((d : Int) / 256) (bits .and .i64 ((d : Int) / 32) 3) (bits .and .i64 ((d : Int) / 2) 7)).2.1 (bits .and .i64 ((d : Int) / 16) 1) + bits .or .i64 (evT ((d : Int) / 256) (bits .and .i64 ((d : Int) / 32) 3) (bits .and .i64 ((d : Int) / 2) 7)).2.2 (bits .and .i64 (d : Int) 1)
theorem dm_all (d : Nat) (hd : d < 1024) : dmT d = (dlD d : Int) ∧ (0 ≤ bits .and .i64 ((d : Int) / 32) 3 ∧ bits .and .i64 ((d : Int) / 32) 3 < 4) ∧ (0 ≤ bits .and .i64 ((d : Int) / 2) 7 ∧ bits .and .i64 ((d : Int) / 2) 7 < 8) ∧ (0 ≤ bits .or .i64 (evT ((d : Int) / 256) (bits .and .i64 ((d : Int) / 32) 3) (bits .and .i64 ((d : Int) / 2) 7)).1 (bits .and .i64 ((d : Int) / 128) 1) ∧ bits .or .i64 (evT ((d : Int) / 256) (bits .and .i64 ((d : Int) / 32) 3) (bits .and .i64 ((d : Int) / 2) 7)).1 (bits .and .i64 ((d : Int) / 128) 1) ≤ 9) ∧ (0 ≤ bits .or .i64 (evT ((d : Int) / 256) (bits .and .i64 ((d : Int) / 32) 3) (bits .and .i64 ((d : Int) / 2) 7)).2.1 (bits .and .i64 ((d : Int) / 16) 1) ∧ bits .or .i64 (evT ((d : Int) / 256) (bits .and .i64 ((d : Int) / 32) 3) (bits .and .i64 ((d : Int) / 2) 7)).2.1 (bits .and .i64 ((d : Int) / 16) 1) ≤ 9) ∧ (0 ≤ bits .or .i64 (evT ((d : Int) / 256) (bits .and .i64 ((d : Int) / 32) 3) (bits .and .i64 ((d : Int) / 2) 7)).2.2 (bits .and .i64 (d : Int) 1) ∧ bits .or .i64 (evT ((d : Int) / 256) (bits .and .i64 ((d : Int) / 32) 3) (bits .and .i64 ((d : Int) / 2) 7)).2.2 (bits .and .i64 (d : Int) 1) ≤ 9) := by
  have h := upTo_all (f := fun d => decide (dmT d = (dlD d : Int) ∧ (0 ≤ bits .and .i64 ((d : Int) / 32) 3 ∧ bits .and .i64 ((d : Int) / 32) 3 < 4) ∧ (0 ≤ bits .and .i64 ((d : Int) / 2) 7 ∧ bits .and .i64 ((d : Int) / 2) 7 < 8) ∧ (0 ≤ bits .or .i64 (evT ((d : Int) / 256) (bits .and .i64 ((d : Int) / 32) 3) (bits .and .i64 ((d : Int) / 2) 7)).1 (bits .and .i64 ((d : Int) / 128) 1) ∧ bits .or .i64 (evT ((d : Int) / 256) (bits .and .i64 ((d : Int) / 32) 3) (bits .and .i64 ((d : Int) / 2) 7)).1 (bits .and .i64 ((d : Int) / 128) 1) ≤ 9) ∧ (0 ≤ bits .or .i64 (evT ((d : Int) / 256) (bits .and .i64 ((d : Int) / 32) 3) (bits .and .i64 ((d : Int) / 2) 7)).2.1 (bits .and .i64 ((d : Int) / 16) 1) ∧ bits .or .i64 (evT ((d : Int) / 256) (bits .and .i64 ((d : Int) / 32) 3) (bits .and .i64 ((d : Int) / 2) 7)).2.1 (bits .and .i64 ((d : Int) / 16) 1) ≤ 9) ∧ (0 ≤ bits .or .i64 (evT ((d : Int) / 256) (bits .and .i64 ((d : Int) / 32) 3) (bits .and .i64 ((d : Int) / 2) 7)).2.2 (bits .and .i64 (d : Int) 1) ∧ bits .or .i64 (evT ((d : Int) / 256) (bits .and .i64 ((d : Int) / 32) 3) (bits .and .i64 ((d : Int) / 2) 7)).2.2 (bits .and .i64 (d : Int) 1) ≤ 9))) (m := 1024) (by decide +kernel) d hd
  exact of_decide_eq_true h
section
variable (d s v x y z xa ya za X Y Z R : Int) (w : World) (h0 : ¬ d < 0) (h0' : 0 ≤ d) (h9 : ¬ 1024 ≤ d) (hs : bits .and .i64 (d / 32) 3 = s) (hv : bits .and .i64 (d / 2) 7 = v)
  (cf : ∀ W, Calls Tryd.prog 81 #[.int .i64 (d / 256), .int .i64 s, .int .i64 v] W fun r w' => r = .returned (.tuple #[.int .i64 x, .int .i64 y, .int .i64 z]) ∧ W = w')
  (ha : bits .and .i64 (d / 128) 1 = xa) (hb : bits .and .i64 (d / 16) 1 = ya) (hc : bits .and .i64 d 1 = za)
  (hx : bits .or .i64 x xa = X) (hy : bits .or .i64 y ya = Y) (hz : bits .or .i64 z za = Z) (hX0 : 0 ≤ X) (hX1 : X ≤ 9) (hY0 : 0 ≤ Y) (hY1 : Y ≤ 9) (hZ0 : 0 ≤ Z) (hZ1 : Z ≤ 9)
  (hR : 100 * X + 10 * Y + Z = R)
include h0 h0' h9 hs hv cf ha hb hc hx hy hz hX0 hX1 hY0 hY1 hZ0 hZ1 hR
set_option maxHeartbeats 1000000 in
theorem ddcd_w : Calls Tryd.prog 79 #[.int .i64 d] w fun r w' => r = .returned (.tuple #[.int .i64 R, .int .i64 0]) ∧ w = w' := by
  go_enter Tryd.func79, Tryd.ntmps79
  go_wp2_with (go_at_call 81; refine (cf _).mono ?_; rintro r w1 ⟨rfl, rfl⟩)
  exact bodyPost_ret (by simp only [results, Tryd.results79]; go_simp) rfl ⟨rfl, rfl⟩
end
theorem ddcd_v (d : Nat) (hd : d < 1024) (w : World) : Calls Tryd.prog 79 #[.int .i64 (d : Int)] w fun r w' => r = .returned (.tuple #[.int .i64 (dlD d : Int), .int .i64 0]) ∧ w = w' := by
  obtain ⟨hR, hs, hv, ⟨x0, x1⟩, ⟨y0, y1⟩, ⟨z0, z1⟩⟩ := dm_all d hd
  exact ddcd_w (d : Int) _ _ _ _ _ _ _ _ _ _ _ _ w (by omega) (by omega) (by omega) rfl rfl (fun W => evens_v _ _ _ W (by omega) hs hv) rfl rfl rfl rfl rfl rfl x0 x1 y0 y1 z0 z1 hR
end Go.Proofs.YtgknbdehlmlipaaDoor
