/-
  Texts of digits: what nat's allDigits and the document's IsDigits do: contracts.
-/
import Derived.Test.YtkbplchgaploeabDoorNmu
set_option linter.unusedVariables false
set_option linter.unusedSimpArgs false
namespace Go.Proofs.YtkbplchgaploeabDoor
open Go.RowKit

/-- byte i of a text -/
def sb (s : ByteArray) (i : Nat) : Int := if h : i < s.size then ((s[i]'h).toNat : Int) else 0
theorem sb_lt {s : ByteArray} {i : Nat} (h : i < s.size) : ((s[i]'h).toNat : Int) = sb s i := by unfold sb; rw [dif_pos h]
theorem sb_bd (s : ByteArray) (i : Nat) : 0 ≤ sb s i ∧ sb s i ≤ 255 := by
  unfold sb; split
  · rename_i h; have := (s[i]'h).toNat_lt; omega
  · omega
/-- are the first k bytes digits? -/
def digB (s : ByteArray) : Nat → Bool
  | 0 => true
  | k + 1 => digB s k && decide (48 ≤ sb s k ∧ sb s k ≤ 57)
def isDigB (s : ByteArray) : Bool := digB s s.size && decide (0 < s.size)
theorem digB_false {s : ByteArray} : ∀ (n : Nat) {k : Nat}, k < n → ¬ (48 ≤ sb s k ∧ sb s k ≤ 57) → digB s n = false
  | 0, k, h, _ => by omega
  | n + 1, k, h, hb => by
    unfold digB
    by_cases e : k = n
    · subst e; simp [hb]
    · rw [digB_false n (by omega) hb]; rfl

set_option maxHeartbeats 1000000 in
theorem allDigits_any (s : ByteArray) (w : World) (hs : s.size < 4294967296) :
    Calls Tryd.prog 20 #[.string s] w fun e w' => e = .returned (.bool (isDigB s)) ∧ w = w' := by
  go_enter Tryd.func20, Tryd.ntmps20
  go_wp2
  go_loop [3, 6] (fun u3 i => ∃ k : Nat, k ≤ s.size ∧ i = .int .i64 k ∧ digB s k = true) (fun _ i => s.size - (intOf i).toNat)
  case atStart => exact ⟨0, Nat.zero_le _, rfl, rfl⟩
  case round =>
    obtain ⟨k, hk, rfl, hd⟩ := hrel
    by_cases hlt : k < s.size
    · have hki : (k : Int) < s.size := by omega
      have hsb := sb_lt hlt
      have hbd := sb_bd s k
      by_cases h1 : sb s k < 48
      · have HF : Hid (isDigB s = false) := by show _ = _; unfold isDigB; rw [digB_false s.size hlt (by omega)]; rfl
        go_wp2
        go_ret
        exact ⟨by rw [HF.out]; rfl, rfl⟩
      · by_cases h2 : 57 < sb s k
        · have HF : Hid (isDigB s = false) := by show _ = _; unfold isDigB; rw [digB_false s.size hlt (by omega)]; rfl
          go_wp2
          go_ret
          exact ⟨by rw [HF.out]; rfl, rfl⟩
        · have HD : Hid (digB s (k + 1) = true) := by show _ = _; unfold digB; rw [hd]; simp; omega
          clear hd
          go_wp2
          go_round
          case rel => exact ⟨k + 1, by omega, by go_num, HD.out⟩
          case measure => simp [intOf]; omega
    · obtain rfl : k = s.size := by omega
      have HF : Hid (isDigB s = decide (0 < s.size)) := by show _ = _; unfold isDigB; rw [hd]; simp
      clear hd
      go_wp2
      go_ret
      exact ⟨by rw [HF.out]; rfl, rfl⟩
set_option maxHeartbeats 1000000 in
theorem isDigits_any (s : ByteArray) (w : World) (hs : s.size < 4294967296) :
    Calls Tryd.prog 22 #[.string s] w fun e w' => e = .returned (.bool (isDigB s)) ∧ w = w' := by
  go_enter Tryd.func22, Tryd.ntmps22
  go_wp2
  go_loop [3] (fun i => ∃ k : Nat, k ≤ s.size ∧ i = .int .i64 k ∧ digB s k = true) (fun i => s.size - (intOf i).toNat)
  case atStart => exact ⟨0, Nat.zero_le _, rfl, rfl⟩
  case round =>
    obtain ⟨k, hk, rfl, hd⟩ := hrel
    by_cases hlt : k < s.size
    · have hki : (k : Int) < s.size := by omega
      have hsb := sb_lt hlt
      have hbd := sb_bd s k
      by_cases h1 : sb s k < 48
      · have HF : Hid (isDigB s = false) := by show _ = _; unfold isDigB; rw [digB_false s.size hlt (by omega)]; rfl
        go_wp2
        go_ret
        exact ⟨by rw [HF.out]; rfl, rfl⟩
      · by_cases h2 : 57 < sb s k
        · have HF : Hid (isDigB s = false) := by show _ = _; unfold isDigB; rw [digB_false s.size hlt (by omega)]; rfl
          go_wp2
          go_ret
          exact ⟨by rw [HF.out]; rfl, rfl⟩
        · have HD : Hid (digB s (k + 1) = true) := by show _ = _; unfold digB; rw [hd]; simp; omega
          clear hd
          go_wp2
          go_round
          case rel => exact ⟨k + 1, by omega, by go_num, HD.out⟩
          case measure => simp [intOf]; omega
    · obtain rfl : k = s.size := by omega
      have HF : Hid (isDigB s = decide (0 < s.size)) := by show _ = _; unfold isDigB; rw [hd]; simp
      clear hd
      go_wp2
      go_ret
      exact ⟨by rw [HF.out]; rfl, rfl⟩
end Go.Proofs.YtkbplchgaploeabDoor
