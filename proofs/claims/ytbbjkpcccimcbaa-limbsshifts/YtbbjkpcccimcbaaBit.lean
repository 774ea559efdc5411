/-
  What limbs.Bit does: contracts; parts of a number.
-/
import Derived.Test.YtbbjkpcccimcbaaLim
import Derived.Test.YtbbjkpcccimcbaaDiv
namespace Go.Proofs.Ytbbjkpcccimcbaa
open Go.RowKit

def bitV (v n : Int) : Int := bits BinOp.and IntKind.u64 (v / 2 ^ (n % 64).toNat) 1

set_option maxHeartbeats 400000 in
theorem limBit8 (x : Nat → Int) (n : Int) (w : World) (hx : Words x) (h0 : 0 ≤ n) (h1 : n < 512) :
    Calls Try.prog 40 #[.agg (arrOf x 8), .int .i64 n] w fun e w' => e = .returned (.int .u64 (bitV (x (n / 64).toNat) n)) ∧ Below w.heap.size w w' := by
  have hsz : (arrOf x 8).size = 8 := arrOf_size x 8
  have hc : ∀ h, (arrOf x 8)[(n / 64).toNat]'h = .int .u64 (x (n / 64).toNat) := fun h => arrOf_get x 8 _ h
  have hb := hx (n / 64).toNat
  generalize arrOf x 8 = cs at *
  generalize hv : x (n / 64).toNat = v at *
  clear hv
  have hj : n / 64 < 8 := by omega
  have hj0 : 0 ≤ n / 64 := by omega
  have hm : n % 64 < 64 := by omega
  have hm0 : 0 ≤ n % 64 := by omega
  go_enter Try.func40, Try.ntmps40
  go_wp2
  go_ret
  exact ⟨rfl, (Below.refl _ _).alloc (Nat.le_refl _) _⟩

set_option maxHeartbeats 400000 in
theorem limBit8_out (x : Nat → Int) (n : Int) (w : World) (h0 : n < 0 ∨ 512 ≤ n) :
    Calls Try.prog 40 #[.agg (arrOf x 8), .int .i64 n] w fun e w' => e = .returned (.int .u64 0) ∧ Below w.heap.size w w' := by
  have hsz : (arrOf x 8).size = 8 := arrOf_size x 8
  generalize arrOf x 8 = cs at *
  rcases h0 with h0 | h0
  · go_enter Try.func40, Try.ntmps40
    go_wp2
    go_ret
    exact ⟨rfl, (Below.refl _ _).alloc (Nat.le_refl _) _⟩
  · have h1 : ¬ n < 0 := by omega
    go_enter Try.func40, Try.ntmps40
    go_wp2
    go_ret
    exact ⟨rfl, (Below.refl _ _).alloc (Nat.le_refl _) _⟩

set_option maxHeartbeats 400000 in
theorem limBit2 (x : Nat → Int) (n : Int) (w : World) (hx : Words x) (h0 : 0 ≤ n) (h1 : n < 128) :
    Calls Try.prog 41 #[.agg (arrOf x 2), .int .i64 n] w fun e w' => e = .returned (.int .u64 (bitV (x (n / 64).toNat) n)) ∧ Below w.heap.size w w' := by
  have hsz : (arrOf x 2).size = 2 := arrOf_size x 2
  have hc : ∀ h, (arrOf x 2)[(n / 64).toNat]'h = .int .u64 (x (n / 64).toNat) := fun h => arrOf_get x 2 _ h
  have hb := hx (n / 64).toNat
  generalize arrOf x 2 = cs at *
  generalize hv : x (n / 64).toNat = v at *
  clear hv
  have hj : n / 64 < 2 := by omega
  have hj0 : 0 ≤ n / 64 := by omega
  have hm : n % 64 < 64 := by omega
  have hm0 : 0 ≤ n % 64 := by omega
  go_enter Try.func41, Try.ntmps41
  go_wp2
  go_ret
  exact ⟨rfl, (Below.refl _ _).alloc (Nat.le_refl _) _⟩

set_option maxHeartbeats 400000 in
theorem limBit2_out (x : Nat → Int) (n : Int) (w : World) (h0 : n < 0 ∨ 128 ≤ n) :
    Calls Try.prog 41 #[.agg (arrOf x 2), .int .i64 n] w fun e w' => e = .returned (.int .u64 0) ∧ Below w.heap.size w w' := by
  have hsz : (arrOf x 2).size = 2 := arrOf_size x 2
  generalize arrOf x 2 = cs at *
  rcases h0 with h0 | h0
  · go_enter Try.func41, Try.ntmps41
    go_wp2
    go_ret
    exact ⟨rfl, (Below.refl _ _).alloc (Nat.le_refl _) _⟩
  · have h1 : ¬ n < 0 := by omega
    go_enter Try.func41, Try.ntmps41
    go_wp2
    go_ret
    exact ⟨rfl, (Below.refl _ _).alloc (Nat.le_refl _) _⟩

set_option maxHeartbeats 400000 in
theorem two_any (x : Nat → Int) (w : World) :
    Calls Try.prog 12 #[.agg (arrOf x 8)] w fun e w' => e = .returned (.agg (arrOf x 2)) ∧ Below w.heap.size w w' := by
  show Calls Try.prog 12 #[.agg #[.int .u64 (x 0), .int .u64 (x 1), .int .u64 (x 2), .int .u64 (x 3), .int .u64 (x 4), .int .u64 (x 5), .int .u64 (x 6), .int .u64 (x 7)]] w fun e w' => e = .returned (.agg #[.int .u64 (x 0), .int .u64 (x 1)]) ∧ Below w.heap.size w w'
  go_enter Try.func12, Try.ntmps12
  go_wp2
  exact bodyPost_ret (v := .agg #[.int .u64 (x 0), .int .u64 (x 1)]) (by simp [results, Try.results12, go_sem]) rfl ⟨rfl, ((Below.refl _ _).alloc (Nat.le_refl _) _).alloc (by simp) _⟩
set_option maxHeartbeats 400000 in
theorem four_any (x : Nat → Int) (w : World) :
    Calls Try.prog 14 #[.agg (arrOf x 8)] w fun e w' => e = .returned (.agg (arrOf x 4)) ∧ Below w.heap.size w w' := by
  show Calls Try.prog 14 #[.agg #[.int .u64 (x 0), .int .u64 (x 1), .int .u64 (x 2), .int .u64 (x 3), .int .u64 (x 4), .int .u64 (x 5), .int .u64 (x 6), .int .u64 (x 7)]] w fun e w' => e = .returned (.agg #[.int .u64 (x 0), .int .u64 (x 1), .int .u64 (x 2), .int .u64 (x 3)]) ∧ Below w.heap.size w w'
  go_enter Try.func14, Try.ntmps14
  go_wp2
  exact bodyPost_ret (v := .agg #[.int .u64 (x 0), .int .u64 (x 1), .int .u64 (x 2), .int .u64 (x 3)]) (by simp [results, Try.results14, go_sem]) rfl ⟨rfl, ((Below.refl _ _).alloc (Nat.le_refl _) _).alloc (by simp) _⟩

theorem len8 (x : Nat → Int) (w : World) (hx : Words x) : Calls Try.prog 36 #[.agg (arrOf x 8)] w fun e w' => e = .returned (.int .i64 (lenL x 8)) ∧ Below w.heap.size w w' :=
  (limLen8 (arrOf x 8) x w hx (by simp) (fun i h => arrOf_get? x 8 i h)).mono fun _ _ ⟨h1, h2⟩ => ⟨h1, by rw [h2]; exact (Below.refl _ _).alloc (Nat.le_refl _) _⟩
theorem len2 (x : Nat → Int) (w : World) (hx : Words x) : Calls Try.prog 38 #[.agg (arrOf x 2)] w fun e w' => e = .returned (.int .i64 (lenL x 2)) ∧ Below w.heap.size w w' :=
  (limLen2 (arrOf x 2) x w hx (by simp) (fun i h => arrOf_get? x 2 i h)).mono fun _ _ ⟨h1, h2⟩ => ⟨h1, by rw [h2]; exact (Below.refl _ _).alloc (Nat.le_refl _) _⟩
theorem len1 (x : Nat → Int) (w : World) (hx : Words x) : Calls Try.prog 39 #[.agg (arrOf x 1)] w fun e w' => e = .returned (.int .i64 (lenL x 1)) ∧ Below w.heap.size w w' :=
  (limLen1 (arrOf x 1) x w hx (by simp) (fun i h => arrOf_get? x 1 i h)).mono fun _ _ ⟨h1, h2⟩ => ⟨h1, by rw [h2]; exact (Below.refl _ _).alloc (Nat.le_refl _) _⟩
end Go.Proofs.Ytbbjkpcccimcbaa
