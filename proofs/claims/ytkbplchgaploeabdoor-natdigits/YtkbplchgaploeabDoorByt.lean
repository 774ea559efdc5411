/-
  What bytes.TrimRight does at the cutset of one nought: a contract.
-/
import Derived.Test.YtkbplchgaploeabDoorDec
set_option linter.unusedVariables false
set_option linter.unusedSimpArgs false
namespace Go.Proofs.YtkbplchgaploeabDoor
open Go.RowKit

set_option maxHeartbeats 400000 in
theorem trimRB_any (b n c : Nat) (f : Nat → Int) (w : World) (hn : n < 4294967296) (hnc : n ≤ c) (hc2 : c ≤ maxLen) (hf : ∀ i, 0 ≤ f i ∧ f i ≤ 9) (hc : ∀ i, i < n → w.cell? ⟨b, i, none⟩ = some (.int .u8 (48 + f i))) :
    Calls Tryd.prog 30 #[.slice (some ⟨b, 0, none⟩) n c, .int .u8 48] w fun e w' => e = .returned (.slice (some ⟨b, 0, none⟩) (sizeL f n) c) ∧ w = w' := by
  unfold maxLen at hc2
  go_enter Tryd.func30, Tryd.ntmps30
  go_wp2
  go_loop [0] (fun t => ∃ k : Nat, k ≤ n ∧ sizeL f k = sizeL f n ∧ t = .slice (some ⟨b, 0, none⟩) k c) (fun t => match t with | .slice _ k _ => k | _ => 0)
  case atStart => exact ⟨n, Nat.le_refl _, rfl, rfl⟩
  case round =>
    obtain ⟨k, hk, hs, rfl⟩ := hrel
    by_cases h0 : k = 0
    · subst h0
      have HS : Hid (sizeL f n = 0) := hs.symm
      clear hs hc
      go_wp2
      go_ret
      exact ⟨by rw [HS.out]; rfl, rfl⟩
    · obtain ⟨j, rfl⟩ : ∃ j, k = j + 1 := ⟨k - 1, by omega⟩
      have hcj := hc j (by omega)
      have hfj := hf j
      by_cases hzj : f j = 0
      · have HS : Hid (sizeL f j = sizeL f n) := by
          have : sizeL f (j + 1) = sizeL f j := by simp [sizeL, hzj]
          exact this.symm.trans hs
        clear hs hc hf
        rw [hzj] at hcj
        go_wp2
        go_round
        case rel => exact ⟨j, by omega, HS.out, rfl⟩
        case measure => simp
      · have HS : Hid (sizeL f n = j + 1) := by
          have : sizeL f (j + 1) = j + 1 := by simp [sizeL, hzj]
          exact hs.symm.trans this
        have hne : (48 + f j == 48) = false := by simp; omega
        clear hs hc hf
        go_wp2
        go_ret
        exact ⟨by rw [HS.out]; rfl, rfl⟩

set_option maxRecDepth 20000 in
set_option maxHeartbeats 400000 in
theorem trimRight_any (b n c : Nat) (f : Nat → Int) (w : World) (hn : n < 4294967296) (hnc : n ≤ c) (hc2 : c ≤ maxLen) (hf : ∀ i, 0 ≤ f i ∧ f i ≤ 9) (hc : ∀ i, i < n → w.cell? ⟨b, i, none⟩ = some (.int .u8 (48 + f i))) :
    Calls Tryd.prog 16 #[.slice (some ⟨b, 0, none⟩) n c, .string ⟨#[48]⟩] w fun e w' => e = .returned (.slice (some ⟨b, 0, none⟩) (sizeL f n) c) ∧ w = w' := by
  have hT := trimRB_any b n c f w hn hnc hc2 hf hc
  clear hf
  by_cases h0 : n = 0
  · subst h0
    clear hT hc
    go_enter Tryd.func16, Tryd.ntmps16
    go_wp2
    go_ret
    exact ⟨rfl, rfl⟩
  · have hn0 : ((n : Int) == 0) = false := by simp; omega
    clear hc
    generalize sizeL f n = s at *
    go_enter Tryd.func16, Tryd.ntmps16
    have h48 : ∀ h, ((⟨#[48]⟩ : ByteArray)[0]'h).toNat = 48 := fun _ => rfl
    go_wp2_with (go_at_call 30; refine hT.mono ?_; rintro e w' ⟨rfl, rfl⟩)
    go_ret
    exact ⟨rfl, rfl⟩
set_option maxHeartbeats 400000 in
theorem trimRight_nil (w : World) :
    Calls Tryd.prog 16 #[.slice none 0 0, .string ⟨#[48]⟩] w fun e w' => e = .returned (.slice none 0 0) ∧ w = w' := by
  go_enter Tryd.func16, Tryd.ntmps16
  go_wp2
  go_ret
  exact ⟨rfl, rfl⟩
end Go.Proofs.YtkbplchgaploeabDoor
