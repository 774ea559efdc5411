/-
  A number's digits: what digits does.
-/
import Derived.Test.YtgjdhfmpemionaaDoorHc
set_option linter.unusedVariables false
set_option linter.unusedSimpArgs false
set_option maxRecDepth 20000
namespace Go.Proofs.YtgjdhfmpemionaaDoor
open Go.RowKit

/-- a number's digits, none of 0 -/
def dgN (n : Nat) : List UInt8 := if n = 0 then [] else Lib.decDigits n
theorem dgN_step {m : Nat} (h : 0 < m) : dgN m = dgN (m / 10) ++ [UInt8.ofNat (48 + m % 10)] := by
  unfold dgN
  rw [if_neg (by omega), Lib.decDigits]
  split
  · rename_i h1
    rw [if_pos (by omega), show m % 10 = m by omega]; rfl
  · rename_i h1
    rw [if_neg (by omega)]
theorem dgN_len {n : Nat} (h : n < 4294967296) : (dgN n).length ≤ 21 := by
  unfold dgN
  split
  · simp
  · have := Lib.itoa_length_le (n : Int) (by omega) (by omega)
    rw [Lib.itoa_nonneg] at this
    exact this
theorem one_back (W : World) (b : UInt8) (v : Int) (hv : v = b.toNat) (g : Nat) (hg : W.heap.size = g) : (convert 40 9 (.slice (some ⟨g, 0, none⟩) 1 1)).run Tryd.prog (W.alloc (.cells #[.int .u8 v] 5)) = .ok (.string (B [b])) (W.alloc (.cells #[.int .u8 v] 5)) := by
  subst hg hv
  refine run_convert_bytes_back (W.alloc (.cells #[.int .u8 b.toNat] 5)) 40 9 5 ⟨W.heap.size, 0, none⟩ 1 [b] Tryd.underlying40 Tryd.underlying5 Tryd.underlying9 fun j hj => ?_
  have : j = 0 := by simp at hj; omega
  subst this
  exact news1 W b.toNat _ rfl 0 _ rfl
set_option maxHeartbeats 1000000 in
theorem digits_any (N : Nat) (w : World) (hN : N < 4294967296) :
    Calls Tryd.prog 15 #[.int .u64 N] w fun e w' => e = .returned (.string (B (dgN N))) ∧ Below w.heap.size w w' := by
  have htl := B_toList
  go_enter Tryd.func15, Tryd.ntmps15
  go_wp2
  go_loopw [0, 3] (fun n s wr => ∃ (m : Nat) (acc : List UInt8), m ≤ N ∧ n = .int .u64 m ∧ s = .string (B acc) ∧ Hid (dgN N = dgN m ++ acc) ∧ acc.length ≤ 21 ∧ Below w.heap.size w wr) (fun n _ _ => (intOf n).toNat)
  case atStart => exact ⟨N, [], Nat.le_refl _, rfl, rfl, by show _ = _; rw [List.append_nil], by simp, Below.refl _ _⟩
  case round =>
    obtain ⟨m, acc, hm, rfl, rfl, hd, ha, hB⟩ := hrel
    have hsz := B_size acc
    by_cases h0 : 0 < m
    · have hi0 : (0 : Int) < m := by omega
      have hr0 : 0 ≤ (m : Int) % 10 := by omega
      have hr1 : (m : Int) % 10 < 10 := by omega
      have hst := dgN_step h0
      have hap := B_app [UInt8.ofNat (48 + m % 10)] acc
      have hz1 : (B [UInt8.ofNat (48 + m % 10)]).size = 1 := rfl
      have hbk := one_back wr (UInt8.ofNat (48 + m % 10)) (48 + (m : Int) % 10) (by have := (dig_of (m % 10) (by omega)).2; omega) wr.heap.size rfl
      have HD : Hid (dgN N = dgN (m / 10) ++ ([UInt8.ofNat (48 + m % 10)] ++ acc)) := by
        show _ = _
        rw [hd.out, hst, List.append_assoc]
      have HL : Hid (([UInt8.ofNat (48 + m % 10)] ++ acc).length ≤ 21) := by
        have h1 := dgN_len hN
        rw [HD.out, List.length_append] at h1
        show _ ≤ _
        omega
      have HB : Hid (Below w.heap.size w wr) := hB
      have hbs := hB.size
      clear hd hst hB
      generalize ([UInt8.ofNat (48 + m % 10)] ++ acc) = acc2 at *
      generalize UInt8.ofNat (48 + m % 10) = b at *
      go_wp2
      go_roundw
      case rel => exact ⟨m / 10, acc2, by omega, by go_num, rfl, HD.out, HL.out, HB.out.alloc hbs _⟩
      case measure => simp [intOf]; omega
    · obtain rfl : m = 0 := by omega
      have HD : Hid (dgN N = acc) := hd.out
      have HB : Hid (Below w.heap.size w wr) := hB
      clear hd hB
      go_wp2
      go_ret
      exact ⟨by rw [HD.out]; rfl, HB.out⟩
end Go.Proofs.YtgjdhfmpemionaaDoor
