/-
  Texts that the proof leans on.
-/
import Derived.Test.YtpemdcnneabbfaaDoorJ13
set_option linter.unusedVariables false
set_option linter.unusedSimpArgs false
set_option linter.unusedSectionVars false
set_option maxRecDepth 20000
namespace Go.Proofs.YtpemdcnneabbfaaDoor
open Go.RowKit
theorem bor_val {x y b : Int} (hx : 0 ≤ x ∧ x ≤ 18446744073709551615) (hy : 0 ≤ y ∧ y ≤ 18446744073709551615) (hb : 0 ≤ b ∧ b ≤ 1) : (x - y - b) % 18446744073709551616 - bor x y b * 18446744073709551616 = x - y - b := by
  unfold bor; split <;> omega
theorem dif_val {x y : Nat → Int} (hx : Words x) (hy : Words y) : ∀ n, val (difW x y) n - borW x y n * 18446744073709551616 ^ n = val x n - val y n
  | 0 => by simp [val, borW]
  | n + 1 => by
    have ih := dif_val hx hy n
    have h := bor_val (hx n) (hy n) (borW_01 x y n)
    show val (difW x y) n + difW x y n * 18446744073709551616 ^ n - bor (x n) (y n) (borW x y n) * 18446744073709551616 ^ (n + 1) = val x n + x n * 18446744073709551616 ^ n - (val y n + y n * 18446744073709551616 ^ n)
    have hd : difW x y n = (x n - y n - borW x y n) % 18446744073709551616 := rfl
    rw [← hd] at h
    rw [Int.pow_succ]
    generalize (18446744073709551616 : Int) ^ n = P at *
    grind
section
set_option maxHeartbeats 400000 in
theorem nlen_any (a : Option Addr) (n c : Nat) (x : Nat → Int) (w : World) (hn : n < 100000000) (h : Num w a n c x) :
    Calls Tryd.prog 33 #[.slice a n c] w fun e w' => e = .returned (.int .i64 (lenL x n)) ∧ w = w' := by
  have hb := bare_any a n c x w (by omega) h
  have hle := sizeL_le x n
  by_cases h0 : sizeL x n = 0
  · have HL : Hid (lenL x n = 0) := by show _ = _; simp [lenL, h0]
    rw [h0] at hb
    clear h0 h
    go_enter Tryd.func33, Tryd.ntmps33
    go_wp2_with (go_at_call 50; refine hb.mono ?_; rintro e w' ⟨rfl, rfl⟩)
    go_ret
    exact ⟨ret_int HL.out.symm, rfl⟩
  · obtain ⟨j, hj⟩ : ∃ j, sizeL x n = j + 1 := ⟨sizeL x n - 1, by omega⟩
    have HL : Hid (lenL x n = 64 * (j : Int) + Lib.bitLen (x j).toNat) := by show _ = _; simp [lenL, hj]; omega
    obtain ⟨b, off, rfl, hbs, hc⟩ := h.cells (by omega)
    rw [hj] at hb
    have hcj := hc j (by omega)
    have hbx := h.2.2.1 j
    have hbl := bitLen64 (x j).toNat
    have hj' : j + 1 ≤ n := by omega
    clear h0 hc hj hle h
    have hcl := Tryd.bits_Len64 (x j) w hbx.1 hbx.2
    generalize Lib.bitLen (x j).toNat = L at *
    go_enter Tryd.func33, Tryd.ntmps33
    go_wp2_with (first | (go_at_call 50; refine hb.mono ?_; rintro e w' ⟨rfl, rfl⟩) | (go_at_call 51; refine hcl.mono ?_; rintro e w' ⟨rfl, rfl⟩))
    go_ret
    exact ⟨ret_int (by rw [HL.out]; omega), rfl⟩
end
end Go.Proofs.YtpemdcnneabbfaaDoor
