/-
  The value of digits; an exponent's text: contracts.
-/
import Derived.Test.YtgjdhfmpemionaaDoorGa
set_option linter.unusedVariables false
set_option linter.unusedSimpArgs false
namespace Go.Proofs.YtgjdhfmpemionaaDoor
open Go.RowKit

/-- the number of digits -/
def nv (l : List UInt8) : Int := l.foldl (fun v c => 10 * v + ((c.toNat : Int) - 48)) 0
theorem nv_fold (l : List UInt8) : ∀ v : Int, l.foldl (fun v c => 10 * v + ((c.toNat : Int) - 48)) v = v * 10 ^ l.length + nv l := by
  induction l with
  | nil => intro v; simp [nv]
  | cons c r ih =>
    intro v
    unfold nv
    rw [List.foldl_cons, List.foldl_cons, ih, ih (10 * 0 + _), List.length_cons, Int.pow_succ]
    grind
theorem nv_app (a b : List UInt8) : nv (a ++ b) = nv a * 10 ^ b.length + nv b := by
  unfold nv
  rw [List.foldl_append, nv_fold b]
  rfl
theorem nv_one (c : UInt8) : nv [c] = (c.toNat : Int) - 48 := by simp [nv]
theorem take_snoc {l : List UInt8} {k : Nat} (h : k < l.length) : l.take (k + 1) = l.take k ++ [l[k]] := List.take_succ_eq_append_getElem h
theorem nv_take {l : List UInt8} {k : Nat} (h : k < l.length) : nv (l.take (k + 1)) = 10 * nv (l.take k) + (by_ l k - 48) := by
  rw [take_snoc h, nv_app, nv_one]
  unfold by_; rw [dif_pos h]
  simp; omega
theorem nv_nn {l : List UInt8} (h : l.all dg = true) : 0 ≤ nv l ∧ nv l < 10 ^ l.length := by
  have key : ∀ k, k ≤ l.length → 0 ≤ nv (l.take k) ∧ nv (l.take k) < 10 ^ k := by
    intro k
    induction k with
    | zero => intro _; simp [nv]
    | succ k ih =>
      intro hk
      have h1 := ih (by omega)
      have h2 := (all_dg l).1 h k (by omega)
      rw [nv_take (by omega), Int.pow_succ]
      omega
  have := key l.length (Nat.le_refl _)
  rwa [List.take_length] at this
theorem nv_take_nn {l : List UInt8} (h : l.all dg = true) (k : Nat) : 0 ≤ nv (l.take k) :=
  (nv_nn (l := l.take k) (List.all_eq_true.2 fun c hc => List.all_eq_true.1 h c (List.mem_of_mem_take hc))).1
/-- the number of digits, or two thousand millions -/
def vc (l : List UInt8) : Int := min (nv l) 2000000000
set_option maxHeartbeats 1000000 in
theorem value_any (l : List UInt8) (w : World) (hs : l.length < 4294967296) (hd : l.all dg = true) :
    Calls Tryd.prog 40 #[.string (B l)] w fun e w' => e = .returned (.int .i64 (vc l)) ∧ Below w.heap.size w w' := by
  have hsz := B_size l
  have HD : Hid (l.all dg = true) := hd
  have HA : Hid (∀ i, i < l.length → 48 ≤ by_ l i ∧ by_ l i ≤ 57) := (all_dg l).1 hd
  clear hd
  go_enter Tryd.func40, Tryd.ntmps40
  go_wp2
  go_loop [3, 4, 7] (fun v u4 i => ∃ (k : Nat) (x : Int), k ≤ l.length ∧ i = .int .i64 k ∧ v = .int .i64 x ∧ 0 ≤ x ∧ x ≤ 2000000000 ∧ Hid (x = vc (l.take k))) (fun _ _ i => l.length - (intOf i).toNat)
  case atStart => exact ⟨0, 0, Nat.zero_le _, rfl, rfl, by decide, by decide, rfl⟩
  case round =>
    obtain ⟨k, x, hk, rfl, rfl, hx0, hx1, hx⟩ := hrel
    by_cases hlt : k < l.length
    · have hki : (k : Int) < (B l).size := by omega
      have hki2 : (k : Int) < l.length := by omega
      have hsb := by_lt (l := l) (i := k) (by omega)
      have hbd := HA.out k hlt
      have HX : Hid (min (10 * x + (by_ l k - 48)) 2000000000 = vc (l.take (k + 1))) := by
        show _ = _
        have h0 := nv_take_nn HD.out k
        rw [hx.out]; unfold vc; rw [nv_take hlt]
        omega
      go_wp2
      go_round
      case rel => exact ⟨k + 1, min (10 * x + (by_ l k - 48)) 2000000000, by omega, by go_num, by go_num, by omega, by omega, HX.out⟩
      case measure => simp [intOf]; omega
    · obtain rfl : k = l.length := by omega
      rw [List.take_length] at hx
      go_wp2
      go_ret
      exact ⟨by rw [← hx.out]; rfl, Below.refl _ _⟩
set_option maxHeartbeats 1000000 in
theorem tail_any (l : List UInt8) (w : World) (hs : l.length ≤ 10) (hd : l.all dg = true) :
    Calls Tryd.prog 35 #[.string (B l)] w fun e w' => e = .returned (.int .i64 (nv l)) ∧ w' = w := by
  have hsz := B_size l
  have HD : Hid (l.all dg = true) := hd
  have HA : Hid (∀ i, i < l.length → 48 ≤ by_ l i ∧ by_ l i ≤ 57) := (all_dg l).1 hd
  clear hd
  go_enter Tryd.func35, Tryd.ntmps35
  go_wp2
  go_loop [3, 4] (fun v i => ∃ (k : Nat) (x : Int), k ≤ l.length ∧ i = .int .i64 k ∧ v = .int .i64 x ∧ Hid (x = nv (l.take k))) (fun _ i => l.length - (intOf i).toNat)
  case atStart => exact ⟨0, 0, Nat.zero_le _, rfl, rfl, rfl⟩
  case round =>
    obtain ⟨k, x, hk, rfl, rfl, hx⟩ := hrel
    have hx0 : 0 ≤ x ∧ x < 10000000000 := by
      have h0 := nv_nn (l := l.take k) (List.all_eq_true.2 fun c hc => List.all_eq_true.1 HD.out c (List.mem_of_mem_take hc))
      have hp : (10 : Int) ^ (l.take k).length ≤ 10 ^ 10 := by
        have := Nat.pow_le_pow_right (show 0 < 10 by decide) (show (l.take k).length ≤ 10 by simp; omega)
        exact_mod_cast this
      rw [← hx.out] at h0
      have : (10 : Int) ^ 10 = 10000000000 := by decide
      omega
    by_cases hlt : k < l.length
    · have hki : (k : Int) < (B l).size := by omega
      have hki2 : (k : Int) < l.length := by omega
      have hsb := by_lt (l := l) (i := k) (by omega)
      have hbd := HA.out k hlt
      have HX : Hid (10 * x + (by_ l k - 48) = nv (l.take (k + 1))) := by
        show _ = _
        rw [hx.out, nv_take hlt]
      go_wp2
      go_round
      case rel => exact ⟨k + 1, 10 * x + (by_ l k - 48), by omega, by go_num, by go_num, HX.out⟩
      case measure => simp [intOf]; omega
    · obtain rfl : k = l.length := by omega
      rw [List.take_length] at hx
      go_wp2
      go_ret
      exact ⟨by rw [← hx.out]; rfl, rfl⟩
end Go.Proofs.YtgjdhfmpemionaaDoor
