/-
  What nat's and the document's Power do, and the law NatPowers: it returns true.
-/
import Derived.Test.YtcjbdmgaooojlaaDoorNpo
set_option linter.unusedVariables false
set_option linter.unusedSimpArgs false
set_option maxRecDepth 20000
namespace Go.Proofs.YtcjbdmgaooojlaaDoor
open Go.RowKit

set_option maxHeartbeats 400000 in
theorem npow_none (b n : Int) (w : World) (h2 : b ≠ 2) (h5 : b ≠ 5) (h10 : b ≠ 10) :
    Calls Tryd.prog 49 #[.int .i64 b, .int .i64 n] w fun e w' => e = .returned (.tuple #[.slice none 0 0, .int .i64 1]) ∧ w = w' := by
  have e2 : (b != 2) = true := by simpa using h2
  have e5 : (b != 5) = true := by simpa using h5
  have e10 : (b != 10) = true := by simpa using h10
  clear h2 h5 h10
  go_enter Tryd.func49, Tryd.ntmps49
  go_wp2
  go_ret2
  exact ⟨rfl, rfl⟩
set_option maxHeartbeats 400000 in
theorem npow_neg (b n : Int) (w : World) (hb : b = 2 ∨ b = 5 ∨ b = 10) (hn : n < 0) :
    Calls Tryd.prog 49 #[.int .i64 b, .int .i64 n] w fun e w' => e = .returned (.tuple #[.slice none 0 0, .int .i64 1]) ∧ w = w' := by
  rcases hb with rfl | rfl | rfl
  all_goals
    go_enter Tryd.func49, Tryd.ntmps49
    go_wp2
    go_ret2
    exact ⟨rfl, rfl⟩
set_option maxHeartbeats 400000 in
theorem npow_long (b n : Int) (w : World) (hb : b = 2 ∨ b = 5 ∨ b = 10) (hn : 12000 < n) :
    Calls Tryd.prog 49 #[.int .i64 b, .int .i64 n] w fun e w' => e = .returned (.tuple #[.slice none 0 0, .int .i64 4]) ∧ w = w' := by
  rcases hb with rfl | rfl | rfl
  all_goals
    go_enter Tryd.func49, Tryd.ntmps49
    go_wp2
    go_ret2
    exact ⟨rfl, rfl⟩
set_option maxHeartbeats 400000 in
theorem rpower_none (b n : Int) (w : World) (h2 : b ≠ 2) (h5 : b ≠ 5) (h10 : b ≠ 10) :
    Calls Tryd.prog 20 #[.int .i64 b, .int .i64 n] w fun e w' => e = .returned (.tuple #[.slice none 0 0, .int .i64 1]) ∧ w = w' := by
  have e2 : (b != 2) = true := by simpa using h2
  have e5 : (b != 5) = true := by simpa using h5
  have e10 : (b != 10) = true := by simpa using h10
  clear h2 h5 h10
  go_enter Tryd.func20, Tryd.ntmps20
  go_wp2
  go_ret2
  exact ⟨rfl, rfl⟩
set_option maxHeartbeats 400000 in
theorem rpower_neg (b n : Int) (w : World) (hb : b = 2 ∨ b = 5 ∨ b = 10) (hn : n < 0) :
    Calls Tryd.prog 20 #[.int .i64 b, .int .i64 n] w fun e w' => e = .returned (.tuple #[.slice none 0 0, .int .i64 1]) ∧ w = w' := by
  rcases hb with rfl | rfl | rfl
  all_goals
    go_enter Tryd.func20, Tryd.ntmps20
    go_wp2
    go_ret2
    exact ⟨rfl, rfl⟩
set_option maxHeartbeats 400000 in
theorem rpower_long (b n : Int) (w : World) (hb : b = 2 ∨ b = 5 ∨ b = 10) (hn : 12000 < n) :
    Calls Tryd.prog 20 #[.int .i64 b, .int .i64 n] w fun e w' => e = .returned (.tuple #[.slice none 0 0, .int .i64 4]) ∧ w = w' := by
  rcases hb with rfl | rfl | rfl
  all_goals
    go_enter Tryd.func20, Tryd.ntmps20
    go_wp2
    go_ret2
    exact ⟨rfl, rfl⟩
set_option maxHeartbeats 400000 in
theorem rpower_any (b : Int) (n : Nat) (w : World) (hb : b = 2 ∨ b = 5 ∨ b = 10) (hn : n ≤ 12000) :
    Calls Tryd.prog 20 #[.int .i64 b, .int .i64 n] w fun e w' => ∃ g k cap z, e = .returned (.tuple #[.slice (some ⟨g, 0, none⟩) k cap, .int .i64 0]) ∧ k ≤ 50000 ∧ Num w' (some ⟨g, 0, none⟩) k cap z ∧ val z k = b ^ n ∧ Below w.heap.size w w' := by
  have hp := rpow_any b n w (by omega) hn
  have hn' : (n : Int) ≤ 12000 := by omega
  rcases hb with rfl | rfl | rfl
  all_goals
    go_enter Tryd.func20, Tryd.ntmps20
    go_wp2_with (go_at_call 35; refine hp.mono ?_; rintro e w' ⟨g, k, cap, z, rfl, hk, hN, hv, hB⟩)
    go_ret2
    exact ⟨g, k, cap, z, rfl, hk, hN, hv, hB⟩
theorem npow_all (b n : Int) (w : World) :
    Calls Tryd.prog 49 #[.int .i64 b, .int .i64 n] w fun e w' => ∃ o k cap z, e = .returned (.tuple #[.slice o k cap, .int .i64 (powE b n)]) ∧ k ≤ 2001 ∧ Num w' o k cap z ∧ val z k = powV b n ∧ sizeL z k = k ∧ Below w.heap.size w w' := by
  by_cases h1 : (b ≠ 2 ∧ b ≠ 5 ∧ b ≠ 10) ∨ n < 0
  · have hc : Calls Tryd.prog 49 #[.int .i64 b, .int .i64 n] w fun e w' => e = .returned (.tuple #[.slice none 0 0, .int .i64 1]) ∧ w = w' := by
      by_cases hb : b ≠ 2 ∧ b ≠ 5 ∧ b ≠ 10
      · exact npow_none b n w hb.1 hb.2.1 hb.2.2
      · exact npow_neg b n w (by omega) (by omega)
    refine hc.mono fun e w' hw => ⟨none, 0, 0, _, ?_, Nat.zero_le _, num_none w', ?_, rfl, hw.2 ▸ Below.refl _ _⟩
    · rw [hw.1]; unfold powE; rw [if_pos h1]
    · unfold powV; rw [if_pos h1]; rfl
  · by_cases h2 : 12000 < n
    · refine (npow_long b n w (by omega) h2).mono fun e w' hw => ⟨none, 0, 0, _, ?_, Nat.zero_le _, num_none w', ?_, rfl, hw.2 ▸ Below.refl _ _⟩
      · rw [hw.1]; unfold powE; rw [if_neg h1, if_pos h2]
      · unfold powV; rw [if_neg h1, if_pos h2]; rfl
    · obtain ⟨m, rfl⟩ := Int.eq_ofNat_of_zero_le (show 0 ≤ n by omega)
      have hc : Calls Tryd.prog 49 #[.int .i64 b, .int .i64 (m : Int)] w fun e w' => ∃ g k cap z, e = .returned (.tuple #[.slice (some ⟨g, 0, none⟩) k cap, .int .i64 0]) ∧ k ≤ 2001 ∧ Num w' (some ⟨g, 0, none⟩) k cap z ∧ val z k = b ^ m ∧ sizeL z k = k ∧ Below w.heap.size w w' := by
        by_cases hb : b = 2
        · rw [hb]; exact npow_two m w (by omega)
        · exact npow_any b m w (by omega) (by omega)
      refine hc.mono fun e w' ⟨g, k, cap, z, e1, hk, hN, hv1, hs1, hB⟩ => ⟨_, k, cap, z, ?_, hk, hN, ?_, hs1, hB⟩
      · rw [e1]; unfold powE; rw [if_neg h1, if_neg h2]
      · rw [hv1]; unfold powV; rw [if_neg h1, if_neg h2, Int.toNat_natCast]
theorem rpower_all (b n : Int) (w : World) :
    Calls Tryd.prog 20 #[.int .i64 b, .int .i64 n] w fun e w' => ∃ o k cap z, e = .returned (.tuple #[.slice o k cap, .int .i64 (powE b n)]) ∧ k ≤ 50000 ∧ Num w' o k cap z ∧ val z k = powV b n ∧ Below w.heap.size w w' := by
  by_cases h1 : (b ≠ 2 ∧ b ≠ 5 ∧ b ≠ 10) ∨ n < 0
  · have hc : Calls Tryd.prog 20 #[.int .i64 b, .int .i64 n] w fun e w' => e = .returned (.tuple #[.slice none 0 0, .int .i64 1]) ∧ w = w' := by
      by_cases hb : b ≠ 2 ∧ b ≠ 5 ∧ b ≠ 10
      · exact rpower_none b n w hb.1 hb.2.1 hb.2.2
      · exact rpower_neg b n w (by omega) (by omega)
    refine hc.mono fun e w' hw => ⟨none, 0, 0, _, ?_, Nat.zero_le _, num_none w', ?_, hw.2 ▸ Below.refl _ _⟩
    · rw [hw.1]; unfold powE; rw [if_pos h1]
    · unfold powV; rw [if_pos h1]; rfl
  · by_cases h2 : 12000 < n
    · refine (rpower_long b n w (by omega) h2).mono fun e w' hw => ⟨none, 0, 0, _, ?_, Nat.zero_le _, num_none w', ?_, hw.2 ▸ Below.refl _ _⟩
      · rw [hw.1]; unfold powE; rw [if_neg h1, if_pos h2]
      · unfold powV; rw [if_neg h1, if_pos h2]; rfl
    · obtain ⟨m, rfl⟩ := Int.eq_ofNat_of_zero_le (show 0 ≤ n by omega)
      refine (rpower_any b m w (by omega) (by omega)).mono fun e w' ⟨g, k, cap, z, e1, hk, hN, hv1, hB⟩ => ⟨_, k, cap, z, ?_, hk, hN, ?_, hB⟩
      · rw [e1]; unfold powE; rw [if_neg h1, if_neg h2]
      · rw [hv1]; unfold powV; rw [if_neg h1, if_neg h2, Int.toNat_natCast]

end Go.Proofs.YtcjbdmgaooojlaaDoor
