/-
  Texts that the proof leans on.
-/
import Derived.Test.YtgknbdehlmlipabGreatDoorJ21
import Derived.Test.YtgknbdehlmlipabGreatDoorJ15
set_option linter.unusedVariables false
set_option linter.unusedSectionVars false
set_option linter.unusedSimpArgs false
set_option maxRecDepth 20000
namespace Go.Proofs.YtgknbdehlmlipabGreatDoor
open Go.RowKit
attribute [local go_sem ↓] Go.wp_at_zero Go.wp_at_succ

theorem nv_low {k V : Nat} {z : Nat → Int} (hz : Words z) (h0 : ∀ i, k ≤ i → z i = 0) (hv : val z k = (V : Int)) : val z 4 = ((V % 2 ^ 256 : Nat) : Int) := by
  have h1 : val z (4 + k) = (V : Int) := by rw [val_more h0 (4 + k) (by omega), hv]
  rw [val_split z 4 k] at h1
  have hb := val_bd hz 4
  have e4 : (18446744073709551616 : Int) ^ 4 = ((2 ^ 256 : Nat) : Int) := by decide
  rw [e4] at h1 hb
  have h5 := congrArg (· % ((2 ^ 256 : Nat) : Int)) h1
  simp only [Int.add_mul_emod_self_right, Int.emod_eq_of_lt hb.1 hb.2] at h5
  rw [h5]
  rfl
set_option maxHeartbeats 1000000 in
theorem bits_num (g k cap : Nat) (z : Nat → Int) (w : World) (h : Num w (some ⟨g, 0, none⟩) k cap z) :
    Calls Tryz.prog 7 #[.slice (some ⟨g, 0, none⟩) k cap] w fun e w' => e = .returned (.agg (arrOf z 4)) ∧ Below w.heap.size w w' := by
  have hw := fun (i : Nat) (o1 o2 : Obj) => word_any (some ⟨g, 0, none⟩) k cap i z ((w.alloc o1).alloc o2) ((h.next (below1 w _)).next (below1 _ _))
  clear h
  go_enter Tryz.func7, Tryz.ntmps7
  go_wp2
  go_loopw [4, 5] (fun u4 i wr => ∃ (j : Nat) (ss : Array Value), j ≤ 4 ∧ i = .int .i64 j ∧ ss.size = 4 ∧ (∀ q h, ss[q]'h = Value.int .u64 (if q < j then z q else 0)) ∧ wr = (w.alloc (.cells #[.int .u64 0, .int .u64 0, .int .u64 0, .int .u64 0] 24)).alloc (.cells ss 24)) (fun _ i _ => 4 - (intOf i).toNat)
  case atStart => exact ⟨0, _, Nat.zero_le _, rfl, rfl, by intro q h; have h' : q < 4 := h; match q, h' with | 0, _ => rfl | 1, _ => rfl | 2, _ => rfl | 3, _ => rfl, rfl⟩
  case round =>
    obtain ⟨j, ss, hj, rfl, hsz, hss, rfl⟩ := hrel
    by_cases h4 : j < 4
    · have h4i : (j : Int) < 4 := by omega
      have h4s : j < ss.size := by omega
      have hsk : ss[j]? = some (.int .u64 0) := by rw [Array.getElem?_eq_getElem h4s, hss j h4s, if_neg (by omega)]
      have HR : Hid (∀ (i : Nat) (h : i < (ss.setIfInBounds j (.int .u64 (z j))).size), (ss.setIfInBounds j (.int .u64 (z j)))[i]'h = Value.int .u64 (if i < j + 1 then z i else 0)) := set_next hss
      have hwj := hw j (.cells #[.int .u64 0, .int .u64 0, .int .u64 0, .int .u64 0] 24) (.cells ss 24)
      clear hss hw
      go_wp2_with (go_at_call 14; refine hwj.mono ?_; rintro e w' ⟨rfl, rfl⟩)
      go_roundw
      case rel => exact ⟨j + 1, ss.setIfInBounds j (.int .u64 (z j)), by omega, by go_num, by simp [hsz], HR.out, rfl⟩
      case measure => simp [intOf]; omega
    · obtain rfl : j = 4 := by omega
      have hss' : ∀ q h, ss[q]'h = Value.int .u64 (z q) := by
        intro q h; rw [hss q h, if_pos (by omega)]
      clear hss hw
      go_wp2
      exact bodyPost_ret (v := .agg (arrOf z 4)) (by simp [results, Tryz.results7, go_sem]; rfl) rfl ⟨rfl, ((Below.refl _ _).alloc (Nat.le_refl _) _).alloc (by simp) _⟩
theorem bits_nv {K V : Nat} {v : Value} {w : World} (h : NV K V v w) :
    Calls Tryz.prog 7 #[v] w fun e w' => e = .returned (A4 V) ∧ Below w.heap.size w w' := by
  obtain ⟨g, k, cap, z, rfl, hk, hN, hv⟩ := h
  refine (bits_num g k cap z w hN).mono ?_
  rintro e w' ⟨rfl, hb⟩
  refine ⟨?_, hb⟩
  rw [arr_A4 hN.2.2.1 (nv_low hN.2.2.1 hN.2.2.2.1 hv)]
end Go.Proofs.YtgknbdehlmlipabGreatDoor

namespace Go.Proofs.YtgknbdehlmlipabGreatDoor
open Go.RowKit
set_option maxHeartbeats 400000 in
theorem great_v (x g : Int) (hx : 0 ≤ x) (hg : x / 8 = g) (w : World) : Calls Tryz.prog 108 #[.int .i64 x] w fun r w' => r = .returned (.int .i64 g) ∧ w = w' := by
  go_enter Tryz.func108, Tryz.ntmps108
  go_wp2
  go_ret
  exact ⟨rfl, rfl⟩
set_option maxHeartbeats 400000 in
theorem known_v (n : Int) (w : World) : Calls Tryz.prog 96 #[.int .i64 n] w fun r w' => r = .returned (.bool (decide (0 ≤ n ∧ n ≤ 11))) ∧ w = w' := by
  by_cases h0 : 0 ≤ n
  · go_enter Tryz.func96, Tryz.ntmps96
    go_wp2
    go_ret
    exact ⟨by simp [h0], rfl⟩
  · rw [decide_eq_false (fun h => h0 h.1)]
    go_enter Tryz.func96, Tryz.ntmps96
    go_wp2
    go_ret
    exact ⟨rfl, rfl⟩
set_option maxHeartbeats 1000000 in
theorem fields_0 (a b c x y z : Int) (w : World)
    (ga : ∀ W, Calls Tryz.prog 108 #[.int .i64 a] W fun r w' => r = .returned (.int .i64 0) ∧ W = w')
    (gb : ∀ W, Calls Tryz.prog 108 #[.int .i64 b] W fun r w' => r = .returned (.int .i64 0) ∧ W = w')
    (gc : ∀ W, Calls Tryz.prog 108 #[.int .i64 c] W fun r w' => r = .returned (.int .i64 0) ∧ W = w')
    (ha : 0 ≤ a) (hb : 0 ≤ b) (hc : 0 ≤ c) (hx : bits .and .i64 (a / 2) 3 = x) (hy : bits .and .i64 (b / 2) 3 = y) (hz : bits .and .i64 (c / 2) 3 = z) :
    Calls Tryz.prog 106 #[.int .i64 a, .int .i64 b, .int .i64 c] w fun r w' => r = .returned (.tuple #[.int .i64 x, .int .i64 y, .int .i64 z]) ∧ w = w' := by
  have o1 : bits .or .i64 0 0 = 0 := by decide
  have o2 : bits .or .i64 0 0 = 0 := by decide
  go_enter Tryz.func106, Tryz.ntmps106
  go_wp2_with (go_at_call 108; first
    | (refine (ga _).mono ?_; rintro r w1 ⟨rfl, rfl⟩; clear ga)
    | (refine (gb _).mono ?_; rintro r w1 ⟨rfl, rfl⟩; clear gb)
    | (refine (gc _).mono ?_; rintro r w1 ⟨rfl, rfl⟩; clear gc))
  exact bodyPost_ret (by simp only [results, Tryz.results106]; go_simp) rfl ⟨rfl, rfl⟩
set_option maxHeartbeats 1000000 in
theorem fields_1 (a b c x y z : Int) (w : World)
    (ga : ∀ W, Calls Tryz.prog 108 #[.int .i64 a] W fun r w' => r = .returned (.int .i64 0) ∧ W = w')
    (gb : ∀ W, Calls Tryz.prog 108 #[.int .i64 b] W fun r w' => r = .returned (.int .i64 0) ∧ W = w')
    (gc : ∀ W, Calls Tryz.prog 108 #[.int .i64 c] W fun r w' => r = .returned (.int .i64 1) ∧ W = w')
    (ha : 0 ≤ a) (hb : 0 ≤ b) (hc : 0 ≤ c) (hx : bits .and .i64 (a / 2) 3 = x) (hy : bits .and .i64 (b / 2) 3 = y) (hz : bits .and .i64 (c / 2) 3 = z) :
    Calls Tryz.prog 106 #[.int .i64 a, .int .i64 b, .int .i64 c] w fun r w' => r = .returned (.tuple #[.int .i64 x, .int .i64 y, .int .i64 4]) ∧ w = w' := by
  have o1 : bits .or .i64 0 0 = 0 := by decide
  have o2 : bits .or .i64 0 1 = 1 := by decide
  go_enter Tryz.func106, Tryz.ntmps106
  go_wp2_with (go_at_call 108; first
    | (refine (ga _).mono ?_; rintro r w1 ⟨rfl, rfl⟩; clear ga)
    | (refine (gb _).mono ?_; rintro r w1 ⟨rfl, rfl⟩; clear gb)
    | (refine (gc _).mono ?_; rintro r w1 ⟨rfl, rfl⟩; clear gc))
  exact bodyPost_ret (by simp only [results, Tryz.results106]; go_simp) rfl ⟨rfl, rfl⟩
set_option maxHeartbeats 1000000 in
theorem fields_2 (a b c x y z : Int) (w : World)
    (ga : ∀ W, Calls Tryz.prog 108 #[.int .i64 a] W fun r w' => r = .returned (.int .i64 0) ∧ W = w')
    (gb : ∀ W, Calls Tryz.prog 108 #[.int .i64 b] W fun r w' => r = .returned (.int .i64 1) ∧ W = w')
    (gc : ∀ W, Calls Tryz.prog 108 #[.int .i64 c] W fun r w' => r = .returned (.int .i64 0) ∧ W = w')
    (ha : 0 ≤ a) (hb : 0 ≤ b) (hc : 0 ≤ c) (hx : bits .and .i64 (a / 2) 3 = x) (hy : bits .and .i64 (b / 2) 3 = y) (hz : bits .and .i64 (c / 2) 3 = z) :
    Calls Tryz.prog 106 #[.int .i64 a, .int .i64 b, .int .i64 c] w fun r w' => r = .returned (.tuple #[.int .i64 x, .int .i64 z, .int .i64 5]) ∧ w = w' := by
  have o1 : bits .or .i64 0 2 = 2 := by decide
  have o2 : bits .or .i64 2 0 = 2 := by decide
  go_enter Tryz.func106, Tryz.ntmps106
  go_wp2_with (go_at_call 108; first
    | (refine (ga _).mono ?_; rintro r w1 ⟨rfl, rfl⟩; clear ga)
    | (refine (gb _).mono ?_; rintro r w1 ⟨rfl, rfl⟩; clear gb)
    | (refine (gc _).mono ?_; rintro r w1 ⟨rfl, rfl⟩; clear gc))
  exact bodyPost_ret (by simp only [results, Tryz.results106]; go_simp) rfl ⟨rfl, rfl⟩
set_option maxHeartbeats 1000000 in
theorem fields_4 (a b c x y z : Int) (w : World)
    (ga : ∀ W, Calls Tryz.prog 108 #[.int .i64 a] W fun r w' => r = .returned (.int .i64 1) ∧ W = w')
    (gb : ∀ W, Calls Tryz.prog 108 #[.int .i64 b] W fun r w' => r = .returned (.int .i64 0) ∧ W = w')
    (gc : ∀ W, Calls Tryz.prog 108 #[.int .i64 c] W fun r w' => r = .returned (.int .i64 0) ∧ W = w')
    (ha : 0 ≤ a) (hb : 0 ≤ b) (hc : 0 ≤ c) (hx : bits .and .i64 (a / 2) 3 = x) (hy : bits .and .i64 (b / 2) 3 = y) (hz : bits .and .i64 (c / 2) 3 = z) :
    Calls Tryz.prog 106 #[.int .i64 a, .int .i64 b, .int .i64 c] w fun r w' => r = .returned (.tuple #[.int .i64 z, .int .i64 y, .int .i64 6]) ∧ w = w' := by
  have o1 : bits .or .i64 4 0 = 4 := by decide
  have o2 : bits .or .i64 4 0 = 4 := by decide
  go_enter Tryz.func106, Tryz.ntmps106
  go_wp2_with (go_at_call 108; first
    | (refine (ga _).mono ?_; rintro r w1 ⟨rfl, rfl⟩; clear ga)
    | (refine (gb _).mono ?_; rintro r w1 ⟨rfl, rfl⟩; clear gb)
    | (refine (gc _).mono ?_; rintro r w1 ⟨rfl, rfl⟩; clear gc))
  exact bodyPost_ret (by simp only [results, Tryz.results106]; go_simp) rfl ⟨rfl, rfl⟩
set_option maxHeartbeats 1000000 in
theorem fields_3 (a b c x y z : Int) (w : World)
    (ga : ∀ W, Calls Tryz.prog 108 #[.int .i64 a] W fun r w' => r = .returned (.int .i64 0) ∧ W = w')
    (gb : ∀ W, Calls Tryz.prog 108 #[.int .i64 b] W fun r w' => r = .returned (.int .i64 1) ∧ W = w')
    (gc : ∀ W, Calls Tryz.prog 108 #[.int .i64 c] W fun r w' => r = .returned (.int .i64 1) ∧ W = w')
    (ha : 0 ≤ a) (hb : 0 ≤ b) (hc : 0 ≤ c) (hx : bits .and .i64 (a / 2) 3 = x) (hy : bits .and .i64 (b / 2) 3 = y) (hz : bits .and .i64 (c / 2) 3 = z) :
    Calls Tryz.prog 106 #[.int .i64 a, .int .i64 b, .int .i64 c] w fun r w' => r = .returned (.tuple #[.int .i64 x, .int .i64 2, .int .i64 7]) ∧ w = w' := by
  have o1 : bits .or .i64 0 2 = 2 := by decide
  have o2 : bits .or .i64 2 1 = 3 := by decide
  go_enter Tryz.func106, Tryz.ntmps106
  go_wp2_with (go_at_call 108; first
    | (refine (ga _).mono ?_; rintro r w1 ⟨rfl, rfl⟩; clear ga)
    | (refine (gb _).mono ?_; rintro r w1 ⟨rfl, rfl⟩; clear gb)
    | (refine (gc _).mono ?_; rintro r w1 ⟨rfl, rfl⟩; clear gc))
  exact bodyPost_ret (by simp only [results, Tryz.results106]; go_simp) rfl ⟨rfl, rfl⟩
set_option maxHeartbeats 1000000 in
theorem fields_5 (a b c x y z : Int) (w : World)
    (ga : ∀ W, Calls Tryz.prog 108 #[.int .i64 a] W fun r w' => r = .returned (.int .i64 1) ∧ W = w')
    (gb : ∀ W, Calls Tryz.prog 108 #[.int .i64 b] W fun r w' => r = .returned (.int .i64 0) ∧ W = w')
    (gc : ∀ W, Calls Tryz.prog 108 #[.int .i64 c] W fun r w' => r = .returned (.int .i64 1) ∧ W = w')
    (ha : 0 ≤ a) (hb : 0 ≤ b) (hc : 0 ≤ c) (hx : bits .and .i64 (a / 2) 3 = x) (hy : bits .and .i64 (b / 2) 3 = y) (hz : bits .and .i64 (c / 2) 3 = z) :
    Calls Tryz.prog 106 #[.int .i64 a, .int .i64 b, .int .i64 c] w fun r w' => r = .returned (.tuple #[.int .i64 y, .int .i64 1, .int .i64 7]) ∧ w = w' := by
  have o1 : bits .or .i64 4 0 = 4 := by decide
  have o2 : bits .or .i64 4 1 = 5 := by decide
  go_enter Tryz.func106, Tryz.ntmps106
  go_wp2_with (go_at_call 108; first
    | (refine (ga _).mono ?_; rintro r w1 ⟨rfl, rfl⟩; clear ga)
    | (refine (gb _).mono ?_; rintro r w1 ⟨rfl, rfl⟩; clear gb)
    | (refine (gc _).mono ?_; rintro r w1 ⟨rfl, rfl⟩; clear gc))
  exact bodyPost_ret (by simp only [results, Tryz.results106]; go_simp) rfl ⟨rfl, rfl⟩
set_option maxHeartbeats 1000000 in
theorem fields_6 (a b c x y z : Int) (w : World)
    (ga : ∀ W, Calls Tryz.prog 108 #[.int .i64 a] W fun r w' => r = .returned (.int .i64 1) ∧ W = w')
    (gb : ∀ W, Calls Tryz.prog 108 #[.int .i64 b] W fun r w' => r = .returned (.int .i64 1) ∧ W = w')
    (gc : ∀ W, Calls Tryz.prog 108 #[.int .i64 c] W fun r w' => r = .returned (.int .i64 0) ∧ W = w')
    (ha : 0 ≤ a) (hb : 0 ≤ b) (hc : 0 ≤ c) (hx : bits .and .i64 (a / 2) 3 = x) (hy : bits .and .i64 (b / 2) 3 = y) (hz : bits .and .i64 (c / 2) 3 = z) :
    Calls Tryz.prog 106 #[.int .i64 a, .int .i64 b, .int .i64 c] w fun r w' => r = .returned (.tuple #[.int .i64 z, .int .i64 0, .int .i64 7]) ∧ w = w' := by
  have o1 : bits .or .i64 4 2 = 6 := by decide
  have o2 : bits .or .i64 6 0 = 6 := by decide
  go_enter Tryz.func106, Tryz.ntmps106
  go_wp2_with (go_at_call 108; first
    | (refine (ga _).mono ?_; rintro r w1 ⟨rfl, rfl⟩; clear ga)
    | (refine (gb _).mono ?_; rintro r w1 ⟨rfl, rfl⟩; clear gb)
    | (refine (gc _).mono ?_; rintro r w1 ⟨rfl, rfl⟩; clear gc))
  exact bodyPost_ret (by simp only [results, Tryz.results106]; go_simp) rfl ⟨rfl, rfl⟩
set_option maxHeartbeats 1000000 in
theorem fields_7 (a b c x y z : Int) (w : World)
    (ga : ∀ W, Calls Tryz.prog 108 #[.int .i64 a] W fun r w' => r = .returned (.int .i64 1) ∧ W = w')
    (gb : ∀ W, Calls Tryz.prog 108 #[.int .i64 b] W fun r w' => r = .returned (.int .i64 1) ∧ W = w')
    (gc : ∀ W, Calls Tryz.prog 108 #[.int .i64 c] W fun r w' => r = .returned (.int .i64 1) ∧ W = w')
    (ha : 0 ≤ a) (hb : 0 ≤ b) (hc : 0 ≤ c) (hx : bits .and .i64 (a / 2) 3 = x) (hy : bits .and .i64 (b / 2) 3 = y) (hz : bits .and .i64 (c / 2) 3 = z) :
    Calls Tryz.prog 106 #[.int .i64 a, .int .i64 b, .int .i64 c] w fun r w' => r = .returned (.tuple #[.int .i64 0, .int .i64 3, .int .i64 7]) ∧ w = w' := by
  have o1 : bits .or .i64 4 2 = 6 := by decide
  have o2 : bits .or .i64 6 1 = 7 := by decide
  go_enter Tryz.func106, Tryz.ntmps106
  go_wp2_with (go_at_call 108; first
    | (refine (ga _).mono ?_; rintro r w1 ⟨rfl, rfl⟩; clear ga)
    | (refine (gb _).mono ?_; rintro r w1 ⟨rfl, rfl⟩; clear gb)
    | (refine (gc _).mono ?_; rintro r w1 ⟨rfl, rfl⟩; clear gc))
  exact bodyPost_ret (by simp only [results, Tryz.results106]; go_simp) rfl ⟨rfl, rfl⟩
/-- what two great digits or all of them mean -/
def mgT (p s : Int) : Int × Int × Int := if s = 2 then (p * 2, 8, 8) else if s = 1 then (8, p * 2, 8) else if s = 0 then (8, 8, p * 2) else (8, 8, 8)
set_option maxHeartbeats 1000000 in
theorem mgr_v (p s : Int) (w : World) (hp : 0 ≤ p ∧ p < 4) (hs : 0 ≤ s ∧ s < 4) :
    Calls Tryz.prog 104 #[.int .i64 p, .int .i64 s] w fun r w' => r = .returned (.tuple #[.int .i64 (mgT p s).1, .int .i64 (mgT p s).2.1, .int .i64 (mgT p s).2.2]) ∧ w = w' := by
  obtain rfl | rfl | rfl | rfl : s = 0 ∨ s = 1 ∨ s = 2 ∨ s = 3 := by omega
  all_goals (
    go_enter Tryz.func104, Tryz.ntmps104
    go_wp2
    exact bodyPost_ret (by simp only [results, Tryz.results104]; go_simp; first | done | exact ⟨rfl, rfl, rfl⟩) rfl ⟨rfl, rfl⟩)
/-- the digits that fields mean, without their lowest bits -/
def evT (p s v : Int) : Int × Int × Int := if v = 4 then (p * 2, s * 2, 8) else if v = 5 then (p * 2, 8, s * 2) else if v = 6 then (8, s * 2, p * 2) else if v = 7 then mgT p s else (p * 2, s * 2, v * 2)
set_option maxHeartbeats 1000000 in
theorem ev_7 (p s x y z : Int) (w : World)
    (cm : ∀ W, Calls Tryz.prog 104 #[.int .i64 p, .int .i64 s] W fun r w' => r = .returned (.tuple #[.int .i64 x, .int .i64 y, .int .i64 z]) ∧ W = w') :
    Calls Tryz.prog 101 #[.int .i64 p, .int .i64 s, .int .i64 7] w fun r w' => r = .returned (.tuple #[.int .i64 x, .int .i64 y, .int .i64 z]) ∧ w = w' := by
  go_enter Tryz.func101, Tryz.ntmps101
  go_wp2_with (go_at_call 104; refine (cm _).mono ?_; rintro r w1 ⟨rfl, rfl⟩)
  exact bodyPost_ret (by simp only [results, Tryz.results101]; go_simp; first | done | exact ⟨rfl, rfl, rfl⟩) rfl ⟨rfl, rfl⟩
set_option maxHeartbeats 1000000 in
theorem evens_v (p s v : Int) (w : World) (hp : 0 ≤ p ∧ p < 4) (hs : 0 ≤ s ∧ s < 4) (hv : 0 ≤ v ∧ v < 8) :
    Calls Tryz.prog 101 #[.int .i64 p, .int .i64 s, .int .i64 v] w fun r w' => r = .returned (.tuple #[.int .i64 (evT p s v).1, .int .i64 (evT p s v).2.1, .int .i64 (evT p s v).2.2]) ∧ w = w' := by
  by_cases h7 : v = 7
  · subst h7
    exact ev_7 p s _ _ _ w (fun W => mgr_v p s W hp hs)
  by_cases h4 : v = 4
  · subst h4
    go_enter Tryz.func101, Tryz.ntmps101
    go_wp2
    exact bodyPost_ret (by simp only [results, Tryz.results101]; go_simp; first | done | exact ⟨rfl, rfl, rfl⟩) rfl ⟨rfl, rfl⟩
  by_cases h5 : v = 5
  · subst h5
    go_enter Tryz.func101, Tryz.ntmps101
    go_wp2
    exact bodyPost_ret (by simp only [results, Tryz.results101]; go_simp; first | done | exact ⟨rfl, rfl, rfl⟩) rfl ⟨rfl, rfl⟩
  by_cases h6 : v = 6
  · subst h6
    go_enter Tryz.func101, Tryz.ntmps101
    go_wp2
    exact bodyPost_ret (by simp only [results, Tryz.results101]; go_simp; first | done | exact ⟨rfl, rfl, rfl⟩) rfl ⟨rfl, rfl⟩
  have e : evT p s v = (p * 2, s * 2, v * 2) := by
    unfold evT
    rw [if_neg h4, if_neg h5, if_neg h6, if_neg h7]
  rw [e]
  have b4 : (v == 4) = false := by simp [h4]
  have b5 : (v == 5) = false := by simp [h5]
  have b6 : (v == 6) = false := by simp [h6]
  have b7 : (v == 7) = false := by simp [h7]
  go_enter Tryz.func101, Tryz.ntmps101
  go_wp2
  exact bodyPost_ret (by simp only [results, Tryz.results101]; go_simp; first | done | exact ⟨rfl, rfl, rfl⟩) rfl ⟨rfl, rfl⟩
end Go.Proofs.YtgknbdehlmlipabGreatDoor

namespace Go.Proofs.YtgknbdehlmlipabGreatDoor
open Go.RowKit

/-- a declet's fields, by its digits -/
def fdT (a b c : Int) : Int × Int × Int :=
  if a / 8 = 0 then
    if b / 8 = 0 then (if c / 8 = 0 then (bits .and .i64 (a / 2) 3, bits .and .i64 (b / 2) 3, bits .and .i64 (c / 2) 3) else (bits .and .i64 (a / 2) 3, bits .and .i64 (b / 2) 3, 4))
    else (if c / 8 = 0 then (bits .and .i64 (a / 2) 3, bits .and .i64 (c / 2) 3, 5) else (bits .and .i64 (a / 2) 3, 2, 7))
  else
    if b / 8 = 0 then (if c / 8 = 0 then (bits .and .i64 (c / 2) 3, bits .and .i64 (b / 2) 3, 6) else (bits .and .i64 (b / 2) 3, 1, 7))
    else (if c / 8 = 0 then (bits .and .i64 (c / 2) 3, 0, 7) else (0, 3, 7))
theorem fields_v (a b c : Int) (w : World) (ha : 0 ≤ a ∧ a ≤ 9) (hb : 0 ≤ b ∧ b ≤ 9) (hc : 0 ≤ c ∧ c ≤ 9) :
    Calls Tryz.prog 106 #[.int .i64 a, .int .i64 b, .int .i64 c] w fun r w' => r = .returned (.tuple #[.int .i64 (fdT a b c).1, .int .i64 (fdT a b c).2.1, .int .i64 (fdT a b c).2.2]) ∧ w = w' := by
  unfold fdT
  by_cases h1 : a / 8 = 0
  · rw [if_pos h1]
    by_cases h2 : b / 8 = 0
    · rw [if_pos h2]
      by_cases h3 : c / 8 = 0
      · rw [if_pos h3]
        exact fields_0 a b c _ _ _ w (fun W => great_v a 0 ha.1 h1 W) (fun W => great_v b 0 hb.1 h2 W) (fun W => great_v c 0 hc.1 h3 W) ha.1 hb.1 hc.1 rfl rfl rfl
      · rw [if_neg h3]
        exact fields_1 a b c _ _ _ w (fun W => great_v a 0 ha.1 h1 W) (fun W => great_v b 0 hb.1 h2 W) (fun W => great_v c 1 hc.1 (by omega) W) ha.1 hb.1 hc.1 rfl rfl rfl
    · rw [if_neg h2]
      by_cases h3 : c / 8 = 0
      · rw [if_pos h3]
        exact fields_2 a b c _ _ _ w (fun W => great_v a 0 ha.1 h1 W) (fun W => great_v b 1 hb.1 (by omega) W) (fun W => great_v c 0 hc.1 h3 W) ha.1 hb.1 hc.1 rfl rfl rfl
      · rw [if_neg h3]
        exact fields_3 a b c _ _ _ w (fun W => great_v a 0 ha.1 h1 W) (fun W => great_v b 1 hb.1 (by omega) W) (fun W => great_v c 1 hc.1 (by omega) W) ha.1 hb.1 hc.1 rfl rfl rfl
  · rw [if_neg h1]
    by_cases h2 : b / 8 = 0
    · rw [if_pos h2]
      by_cases h3 : c / 8 = 0
      · rw [if_pos h3]
        exact fields_4 a b c _ _ _ w (fun W => great_v a 1 ha.1 (by omega) W) (fun W => great_v b 0 hb.1 h2 W) (fun W => great_v c 0 hc.1 h3 W) ha.1 hb.1 hc.1 rfl rfl rfl
      · rw [if_neg h3]
        exact fields_5 a b c _ _ _ w (fun W => great_v a 1 ha.1 (by omega) W) (fun W => great_v b 0 hb.1 h2 W) (fun W => great_v c 1 hc.1 (by omega) W) ha.1 hb.1 hc.1 rfl rfl rfl
    · rw [if_neg h2]
      by_cases h3 : c / 8 = 0
      · rw [if_pos h3]
        exact fields_6 a b c _ _ _ w (fun W => great_v a 1 ha.1 (by omega) W) (fun W => great_v b 1 hb.1 (by omega) W) (fun W => great_v c 0 hc.1 h3 W) ha.1 hb.1 hc.1 rfl rfl rfl
      · rw [if_neg h3]
        exact fields_7 a b c _ _ _ w (fun W => great_v a 1 ha.1 (by omega) W) (fun W => great_v b 1 hb.1 (by omega) W) (fun W => great_v c 1 hc.1 (by omega) W) ha.1 hb.1 hc.1 rfl rfl rfl
/-- bits side by side: a declet -/
def dcT (a b c : Int) : Int := bits .or .i64 (bits .or .i64 (bits .or .i64 (bits .or .i64 (bits .or .i64 ((fdT a b c).1 * 256) (bits .and .i64 a 1 * 128)) ((fdT a b c).2.1 * 32)) (bits .and .i64 b 1 * 16)) ((fdT a b c).2.2 * 2)) (bits .and .i64 c 1)
theorem dc_all (n : Nat) (hn : n < 1000) : dcT ((n : Int) / 100) ((n : Int) / 10 % 10) ((n : Int) % 10) = (dlE n : Int) ∧ (0 ≤ (fdT ((n : Int) / 100) ((n : Int) / 10 % 10) ((n : Int) % 10)).1 ∧ (fdT ((n : Int) / 100) ((n : Int) / 10 % 10) ((n : Int) % 10)).1 < 4) ∧ (0 ≤ (fdT ((n : Int) / 100) ((n : Int) / 10 % 10) ((n : Int) % 10)).2.1 ∧ (fdT ((n : Int) / 100) ((n : Int) / 10 % 10) ((n : Int) % 10)).2.1 < 4) ∧ (0 ≤ (fdT ((n : Int) / 100) ((n : Int) / 10 % 10) ((n : Int) % 10)).2.2 ∧ (fdT ((n : Int) / 100) ((n : Int) / 10 % 10) ((n : Int) % 10)).2.2 < 8) := by
  have h := upTo_all (f := fun n => decide (dcT ((n : Int) / 100) ((n : Int) / 10 % 10) ((n : Int) % 10) = (dlE n : Int) ∧ (0 ≤ (fdT ((n : Int) / 100) ((n : Int) / 10 % 10) ((n : Int) % 10)).1 ∧ (fdT ((n : Int) / 100) ((n : Int) / 10 % 10) ((n : Int) % 10)).1 < 4) ∧ (0 ≤ (fdT ((n : Int) / 100) ((n : Int) / 10 % 10) ((n : Int) % 10)).2.1 ∧ (fdT ((n : Int) / 100) ((n : Int) / 10 % 10) ((n : Int) % 10)).2.1 < 4) ∧ (0 ≤ (fdT ((n : Int) / 100) ((n : Int) / 10 % 10) ((n : Int) % 10)).2.2 ∧ (fdT ((n : Int) / 100) ((n : Int) / 10 % 10) ((n : Int) % 10)).2.2 < 8))) (m := 1000) (by decide +kernel) n hn
  exact of_decide_eq_true h
theorem and_low (n : Nat) (hn : n < 1024) : bits .and .i64 (n : Int) 1 = ((n % 2 : Nat) : Int) := by
  have h := upTo_all (f := fun n => decide (bits .and .i64 (n : Int) 1 = ((n % 2 : Nat) : Int))) (m := 1024) (by decide +kernel) n hn
  exact of_decide_eq_true h
section
variable (n a b c P S V x y z R : Int) (w : World) (h0 : ¬ n < 0) (h9 : ¬ 1000 ≤ n) (ea : n / 100 = a) (eb : n / 10 % 10 = b) (ec : n % 10 = c)
  (cf : ∀ W, Calls Tryz.prog 106 #[.int .i64 a, .int .i64 b, .int .i64 c] W fun r w' => r = .returned (.tuple #[.int .i64 P, .int .i64 S, .int .i64 V]) ∧ W = w')
  (hP0 : 0 ≤ P) (hP1 : P < 4) (hS0 : 0 ≤ S) (hS1 : S < 4) (hV0 : 0 ≤ V) (hV1 : V < 8)
  (hx : bits .and .i64 a 1 = x) (hy : bits .and .i64 b 1 = y) (hz : bits .and .i64 c 1 = z) (hx0 : 0 ≤ x) (hx1 : x < 2) (hy0 : 0 ≤ y) (hy1 : y < 2)
  (hR : bits .or .i64 (bits .or .i64 (bits .or .i64 (bits .or .i64 (bits .or .i64 (P * 256) (x * 128)) (S * 32)) (y * 16)) (V * 2)) z = R)
include h0 h9 ea eb ec cf hP0 hP1 hS0 hS1 hV0 hV1 hx hy hz hx0 hx1 hy0 hy1 hR
set_option maxHeartbeats 1000000 in
theorem denc_w : Calls Tryz.prog 103 #[.int .i64 n] w fun r w' => r = .returned (.tuple #[.int .i64 R, .int .i64 0]) ∧ w = w' := by
  go_enter Tryz.func103, Tryz.ntmps103
  go_wp2_with (go_at_call 106; refine (cf _).mono ?_; rintro r w1 ⟨rfl, rfl⟩)
  exact bodyPost_ret (by simp only [results, Tryz.results103]; go_simp) rfl ⟨rfl, rfl⟩
end
theorem denc_v (n : Nat) (hn : n < 1000) (w : World) : Calls Tryz.prog 103 #[.int .i64 (n : Int)] w fun r w' => r = .returned (.tuple #[.int .i64 (dlE n : Int), .int .i64 0]) ∧ w = w' := by
  obtain ⟨hR, ⟨p0, p1⟩, ⟨s0, s1⟩, ⟨v0, v1⟩⟩ := dc_all n hn
  unfold dcT at hR
  have la := and_low (n / 100) (by omega)
  have lb := and_low (n / 10 % 10) (by omega)
  rw [show ((n / 100 : Nat) : Int) = (n : Int) / 100 by omega] at la
  rw [show ((n / 10 % 10 : Nat) : Int) = (n : Int) / 10 % 10 by omega] at lb
  exact denc_w (n : Int) _ _ _ _ _ _ _ _ _ _ w (by omega) (by omega) rfl rfl rfl (fun W => fields_v _ _ _ W (by omega) (by omega) (by omega)) p0 p1 s0 s1 v0 v1 rfl rfl rfl (by rw [la]; omega) (by rw [la]; omega) (by rw [lb]; omega) (by rw [lb]; omega) hR
/-- what a declet means, as the code reckons it -/
def dmT (d : Nat) : Int := 100 * bits .or .i64 (evT ((d : Int) / 256) (bits .and .i64 ((d : Int) / 32) 3) (bits .and .i64 ((d : Int) / 2) 7)).1 (bits .and .i64 ((d : Int) / 128) 1) + 10 * bits .or .i64 (evT ((d : Int) / 256) (bits .and .i64 ((d : Int) / 32) 3) (bits .and .i64 ((d : Int) / 2) 7)).2.1 (bits .and .i64 ((d : Int) / 16) 1) + bits .or .i64 (evT ((d : Int) / 256) (bits .and .i64 ((d : Int) / 32) 3) (bits .and .i64 ((d : Int) / 2) 7)).2.2 (bits .and .i64 (d : Int) 1)
theorem dm_all (d : Nat) (hd : d < 1024) : dmT d = (dlD d : Int) ∧ (0 ≤ bits .and .i64 ((d : Int) / 32) 3 ∧ bits .and .i64 ((d : Int) / 32) 3 < 4) ∧ (0 ≤ bits .and .i64 ((d : Int) / 2) 7 ∧ bits .and .i64 ((d : Int) / 2) 7 < 8) ∧ (0 ≤ bits .or .i64 (evT ((d : Int) / 256) (bits .and .i64 ((d : Int) / 32) 3) (bits .and .i64 ((d : Int) / 2) 7)).1 (bits .and .i64 ((d : Int) / 128) 1) ∧ bits .or .i64 (evT ((d : Int) / 256) (bits .and .i64 ((d : Int) / 32) 3) (bits .and .i64 ((d : Int) / 2) 7)).1 (bits .and .i64 ((d : Int) / 128) 1) ≤ 9) ∧ (0 ≤ bits .or .i64 (evT ((d : Int) / 256) (bits .and .i64 ((d : Int) / 32) 3) (bits .and .i64 ((d : Int) / 2) 7)).2.1 (bits .and .i64 ((d : Int) / 16) 1) ∧ bits .or .i64 (evT ((d : Int) / 256) (bits .and .i64 ((d : Int) / 32) 3) (bits .and .i64 ((d : Int) / 2) 7)).2.1 (bits .and .i64 ((d : Int) / 16) 1) ≤ 9) ∧ (0 ≤ bits .or .i64 (evT ((d : Int) / 256) (bits .and .i64 ((d : Int) / 32) 3) (bits .and .i64 ((d : Int) / 2) 7)).2.2 (bits .and .i64 (d : Int) 1) ∧ bits .or .i64 (evT ((d : Int) / 256) (bits .and .i64 ((d : Int) / 32) 3) (bits .and .i64 ((d : Int) / 2) 7)).2.2 (bits .and .i64 (d : Int) 1) ≤ 9) := by
  have h := upTo_all (f := fun d => decide (dmT d = (dlD d : Int) ∧ (0 ≤ bits .and .i64 ((d : Int) / 32) 3 ∧ bits .and .i64 ((d : Int) / 32) 3 < 4) ∧ (0 ≤ bits .and .i64 ((d : Int) / 2) 7 ∧ bits .and .i64 ((d : Int) / 2) 7 < 8) ∧ (0 ≤ bits .or .i64 (evT ((d : Int) / 256) (bits .and .i64 ((d : Int) / 32) 3) (bits .and .i64 ((d : Int) / 2) 7)).1 (bits .and .i64 ((d : Int) / 128) 1) ∧ bits .or .i64 (evT ((d : Int) / 256) (bits .and .i64 ((d : Int) / 32) 3) (bits .and .i64 ((d : Int) / 2) 7)).1 (bits .and .i64 ((d : Int) / 128) 1) ≤ 9) ∧ (0 ≤ bits .or .i64 (evT ((d : Int) / 256) (bits .and .i64 ((d : Int) / 32) 3) (bits .and .i64 ((d : Int) / 2) 7)).2.1 (bits .and .i64 ((d : Int) / 16) 1) ∧ bits .or .i64 (evT ((d : Int) / 256) (bits .and .i64 ((d : Int) / 32) 3) (bits .and .i64 ((d : Int) / 2) 7)).2.1 (bits .and .i64 ((d : Int) / 16) 1) ≤ 9) ∧ (0 ≤ bits .or .i64 (evT ((d : Int) / 256) (bits .and .i64 ((d : Int) / 32) 3) (bits .and .i64 ((d : Int) / 2) 7)).2.2 (bits .and .i64 (d : Int) 1) ∧ bits .or .i64 (evT ((d : Int) / 256) (bits .and .i64 ((d : Int) / 32) 3) (bits .and .i64 ((d : Int) / 2) 7)).2.2 (bits .and .i64 (d : Int) 1) ≤ 9))) (m := 1024) (by decide +kernel) d hd
  exact of_decide_eq_true h
section
variable (d s v x y z xa ya za X Y Z R : Int) (w : World) (h0 : ¬ d < 0) (h0' : 0 ≤ d) (h9 : ¬ 1024 ≤ d) (hs : bits .and .i64 (d / 32) 3 = s) (hv : bits .and .i64 (d / 2) 7 = v)
  (cf : ∀ W, Calls Tryz.prog 101 #[.int .i64 (d / 256), .int .i64 s, .int .i64 v] W fun r w' => r = .returned (.tuple #[.int .i64 x, .int .i64 y, .int .i64 z]) ∧ W = w')
  (ha : bits .and .i64 (d / 128) 1 = xa) (hb : bits .and .i64 (d / 16) 1 = ya) (hc : bits .and .i64 d 1 = za)
  (hx : bits .or .i64 x xa = X) (hy : bits .or .i64 y ya = Y) (hz : bits .or .i64 z za = Z) (hX0 : 0 ≤ X) (hX1 : X ≤ 9) (hY0 : 0 ≤ Y) (hY1 : Y ≤ 9) (hZ0 : 0 ≤ Z) (hZ1 : Z ≤ 9)
  (hR : 100 * X + 10 * Y + Z = R)
include h0 h0' h9 hs hv cf ha hb hc hx hy hz hX0 hX1 hY0 hY1 hZ0 hZ1 hR
set_option maxHeartbeats 1000000 in
theorem ddcd_w : Calls Tryz.prog 97 #[.int .i64 d] w fun r w' => r = .returned (.tuple #[.int .i64 R, .int .i64 0]) ∧ w = w' := by
  go_enter Tryz.func97, Tryz.ntmps97
  go_wp2_with (go_at_call 101; refine (cf _).mono ?_; rintro r w1 ⟨rfl, rfl⟩)
  exact bodyPost_ret (by simp only [results, Tryz.results97]; go_simp) rfl ⟨rfl, rfl⟩
end
theorem ddcd_v (d : Nat) (hd : d < 1024) (w : World) : Calls Tryz.prog 97 #[.int .i64 (d : Int)] w fun r w' => r = .returned (.tuple #[.int .i64 (dlD d : Int), .int .i64 0]) ∧ w = w' := by
  obtain ⟨hR, hs, hv, ⟨x0, x1⟩, ⟨y0, y1⟩, ⟨z0, z1⟩⟩ := dm_all d hd
  exact ddcd_w (d : Int) _ _ _ _ _ _ _ _ _ _ _ _ w (by omega) (by omega) (by omega) rfl rfl (fun W => evens_v _ _ _ W (by omega) hs hv) rfl rfl rfl rfl rfl rfl x0 x1 y0 y1 z0 z1 hR
end Go.Proofs.YtgknbdehlmlipabGreatDoor
