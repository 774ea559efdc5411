/-
  What limbs.Div does at the widths: contracts; that the program is awake.
-/
import Derived.Test.YtbbjkpcccimcbaaAdd
import Derived.BigQuiet
namespace Go.Proofs.Ytbbjkpcccimcbaa
open Go.RowKit
attribute [local go_sem] setCell_drewN alloc_drewN

set_option maxHeartbeats 1000000 in
theorem div64_0 (lo y : Int) (w : World) (hl : 0 ≤ lo ∧ lo ≤ 18446744073709551615) (hy : 0 < y ∧ y ≤ 18446744073709551615) :
    Calls Try.prog 64 #[.int .u64 0, .int .u64 lo, .int .u64 y] w fun e w' => e = .returned (.tuple #[.int .u64 (lo / y), .int .u64 (lo % y)]) ∧ ∃ m, w' = w.drewN m := by
  have hy0 : ¬ y = 0 := by omega
  go_enter Try.func64, Try.ntmps64
  go_wp2
  go_quiet (fail)
  go_wp2
  go_ret2
  exact ⟨rfl, _, rfl⟩

/-- the rest ahead of word n - 1 - j, and the quotient's words -/
def remJ (x : Nat → Int) (d : Int) (n : Nat) : Nat → Int
  | 0 => 0
  | j + 1 => (remJ x d n j * 18446744073709551616 + x (n - 1 - j)) % d
def quoW (x : Nat → Int) (d : Int) (n j : Nat) : Int := (remJ x d n (n - 1 - j) * 18446744073709551616 + x j) / d
theorem remJ_bd (x : Nat → Int) (d : Int) (n j : Nat) (hd : 0 < d) : 0 ≤ remJ x d n j ∧ remJ x d n j < d := by
  cases j with
  | zero => exact ⟨Int.le_refl _, hd⟩
  | succ j => exact ⟨Int.emod_nonneg _ (by omega), Int.emod_lt_of_pos _ hd⟩
theorem set_prev {ss : Array Value} {k : Nat} {f : Nat → Int} (hss : ∀ j h, ss[j]'h = Value.int .u64 (if k + 1 ≤ j then f j else 0)) (j : Nat) (h : j < (ss.setIfInBounds k (.int .u64 (f k))).size) : (ss.setIfInBounds k (.int .u64 (f k)))[j]'h = Value.int .u64 (if k ≤ j then f j else 0) := by
  have h' : j < ss.size := by simpa using h
  rw [Array.getElem_setIfInBounds]
  by_cases e : k = j
  · subst e; simp
  · rw [if_neg e, hss j h']
    by_cases e2 : k ≤ j
    · simp [e2, show k + 1 ≤ j by omega]
    · simp [e2, show ¬ k + 1 ≤ j by omega]
  exact h'

set_option maxHeartbeats 1000000 in
theorem limDiv2 (x : Nat → Int) (d : Int) (w : World) (hd : 0 < d ∧ d ≤ 18446744073709551615)
    (H : ∀ j, j < 2 → ∀ w, Calls Try.prog 64 #[.int .u64 (remJ x d 2 (2 - 1 - j)), .int .u64 (x j), .int .u64 d] w fun e w' => e = .returned (.tuple #[.int .u64 (quoW x d 2 j), .int .u64 (remJ x d 2 (2 - j))]) ∧ ∃ m, w' = w.drewN m) :
    Calls Try.prog 48 #[.agg (arrOf x 2), .int .u64 d] w fun e w' => e = .returned (.tuple #[.agg (arrOf (quoW x d 2) 2), .int .u64 (remJ x d 2 2)]) ∧ Below w.heap.size w w' := by
  have sx : (arrOf x 2).size = 2 := arrOf_size x 2
  have gx := fun i h => arrOf_get x 2 i h
  have hd0 : (d == 0) = false := by simp; omega
  generalize arrOf x 2 = ax at *
  go_enter Try.func48, Try.ntmps48
  go_wp2
  go_loopw [7, 8, 19] (fun c i u19 wr => ∃ (k m : Nat) (ss : Array Value), k ≤ 2 ∧ i = .int .i64 ((k : Int) - 1) ∧ c = .int .u64 (remJ x d 2 (2 - k)) ∧ ss.size = 2 ∧ (∀ j h, ss[j]'h = Value.int .u64 (if k ≤ j then quoW x d 2 j else 0)) ∧ wr = ((((w.alloc (.cells ax 28)).alloc (.cells #[.int .u64 0, .int .u64 0] 28)).alloc (.cells ss 28)).drewN m)) (fun _ i _ _ => (intOf i + 1).toNat)
  case atStart => exact ⟨2, 0, _, Nat.le_refl _, rfl, rfl, rfl, by intro j h; have h' : j < 2 := h; match j, h' with | 0, _ => rfl | 1, _ => rfl, rfl⟩
  case round =>
    obtain ⟨k, m, ss, hk, rfl, rfl, hsz, hss, rfl⟩ := hrel
    by_cases h0 : k = 0
    · subst h0
      have hss' : ∀ j h, ss[j]'h = Value.int .u64 (quoW x d 2 j) := by
        intro j h; rw [hss j h, if_pos (by omega)]
      clear hss H
      go_wp2
      exact bodyPost_ret (v := .tuple #[.agg (arrOf (quoW x d 2) 2), .int .u64 (remJ x d 2 2)]) (by simp [results, Try.results48, go_sem]; rfl) rfl ⟨rfl, below_alloc3 _ _ _ _ _⟩
    · obtain ⟨j, rfl⟩ : ∃ j, k = j + 1 := ⟨k - 1, by omega⟩
      have hj8 : (j : Int) < 2 := by omega
      have ej : ((j + 1 : Nat) : Int) - 1 = j := by omega
      have ej2 : 2 - (j + 1) = 2 - 1 - j := by omega
      rw [ej, ej2]
      have hjs : j < ss.size := by omega
      have hcx : ax[j]? = some (.int .u64 (x j)) := by rw [Array.getElem?_eq_getElem (by omega), gx j (by omega)]
      have HJ := H j (by omega)
      have hsj : ss[j]? = some (.int .u64 0) := by rw [Array.getElem?_eq_getElem hjs, hss j hjs, if_neg (by omega)]
      have hrel1 := set_prev (k := j) (f := quoW x d 2) hss
      have HR : Hid (∀ (i : Nat) (h : i < (ss.setIfInBounds j (.int .u64 (quoW x d 2 j))).size), (ss.setIfInBounds j (.int .u64 (quoW x d 2 j)))[i]'h = Value.int .u64 (if j ≤ i then quoW x d 2 i else 0)) := hrel1
      clear hss H hrel1 ej ej2
      go_wp2_with (go_at_call 64; refine (HJ _).mono ?_; rintro e w' ⟨rfl, m', rfl⟩)
      go_roundw
      case rel => exact ⟨j, m + m', ss.setIfInBounds j (.int .u64 (quoW x d 2 j)), by omega, by go_num, rfl, by simp [hsz], HR.out, rfl⟩
      case measure => simp [intOf]

set_option maxHeartbeats 1000000 in
theorem limDiv8 (x : Nat → Int) (d : Int) (w : World) (hd : 0 < d ∧ d ≤ 18446744073709551615)
    (H : ∀ j, j < 8 → ∀ w, Calls Try.prog 64 #[.int .u64 (remJ x d 8 (8 - 1 - j)), .int .u64 (x j), .int .u64 d] w fun e w' => e = .returned (.tuple #[.int .u64 (quoW x d 8 j), .int .u64 (remJ x d 8 (8 - j))]) ∧ ∃ m, w' = w.drewN m) :
    Calls Try.prog 47 #[.agg (arrOf x 8), .int .u64 d] w fun e w' => e = .returned (.tuple #[.agg (arrOf (quoW x d 8) 8), .int .u64 (remJ x d 8 8)]) ∧ Below w.heap.size w w' := by
  have sx : (arrOf x 8).size = 8 := arrOf_size x 8
  have gx := fun i h => arrOf_get x 8 i h
  have hd0 : (d == 0) = false := by simp; omega
  generalize arrOf x 8 = ax at *
  go_enter Try.func47, Try.ntmps47
  go_wp2
  go_loopw [7, 8, 19] (fun c i u19 wr => ∃ (k m : Nat) (ss : Array Value), k ≤ 8 ∧ i = .int .i64 ((k : Int) - 1) ∧ c = .int .u64 (remJ x d 8 (8 - k)) ∧ ss.size = 8 ∧ (∀ j h, ss[j]'h = Value.int .u64 (if k ≤ j then quoW x d 8 j else 0)) ∧ wr = ((((w.alloc (.cells ax 23)).alloc (.cells #[.int .u64 0, .int .u64 0, .int .u64 0, .int .u64 0, .int .u64 0, .int .u64 0, .int .u64 0, .int .u64 0] 23)).alloc (.cells ss 23)).drewN m)) (fun _ i _ _ => (intOf i + 1).toNat)
  case atStart => exact ⟨8, 0, _, Nat.le_refl _, rfl, rfl, rfl, by intro j h; have h' : j < 8 := h; match j, h' with | 0, _ => rfl | 1, _ => rfl | 2, _ => rfl | 3, _ => rfl | 4, _ => rfl | 5, _ => rfl | 6, _ => rfl | 7, _ => rfl, rfl⟩
  case round =>
    obtain ⟨k, m, ss, hk, rfl, rfl, hsz, hss, rfl⟩ := hrel
    by_cases h0 : k = 0
    · subst h0
      have hss' : ∀ j h, ss[j]'h = Value.int .u64 (quoW x d 8 j) := by
        intro j h; rw [hss j h, if_pos (by omega)]
      clear hss H
      go_wp2
      exact bodyPost_ret (v := .tuple #[.agg (arrOf (quoW x d 8) 8), .int .u64 (remJ x d 8 8)]) (by simp [results, Try.results47, go_sem]; rfl) rfl ⟨rfl, below_alloc3 _ _ _ _ _⟩
    · obtain ⟨j, rfl⟩ : ∃ j, k = j + 1 := ⟨k - 1, by omega⟩
      have hj8 : (j : Int) < 8 := by omega
      have ej : ((j + 1 : Nat) : Int) - 1 = j := by omega
      have ej2 : 8 - (j + 1) = 8 - 1 - j := by omega
      rw [ej, ej2]
      have hjs : j < ss.size := by omega
      have hcx : ax[j]? = some (.int .u64 (x j)) := by rw [Array.getElem?_eq_getElem (by omega), gx j (by omega)]
      have HJ := H j (by omega)
      have hsj : ss[j]? = some (.int .u64 0) := by rw [Array.getElem?_eq_getElem hjs, hss j hjs, if_neg (by omega)]
      have hrel1 := set_prev (k := j) (f := quoW x d 8) hss
      have HR : Hid (∀ (i : Nat) (h : i < (ss.setIfInBounds j (.int .u64 (quoW x d 8 j))).size), (ss.setIfInBounds j (.int .u64 (quoW x d 8 j)))[i]'h = Value.int .u64 (if j ≤ i then quoW x d 8 i else 0)) := hrel1
      clear hss H hrel1 ej ej2
      go_wp2_with (go_at_call 64; refine (HJ _).mono ?_; rintro e w' ⟨rfl, m', rfl⟩)
      go_roundw
      case rel => exact ⟨j, m + m', ss.setIfInBounds j (.int .u64 (quoW x d 8 j)), by omega, by go_num, rfl, by simp [hsz], HR.out, rfl⟩
      case measure => simp [intOf]

theorem bcell {W w1 : World} (hb : Below W.heap.size W w1) : (∀ b o, b < W.heap.size → w1.cell? ⟨b, o, none⟩ = W.cell? ⟨b, o, none⟩) ∧ (∀ b o, b < W.heap.size → w1.frozen? ⟨b, o, none⟩ = W.frozen? ⟨b, o, none⟩) :=
  ⟨fun b o h => hb.cell (p := ⟨b, o, none⟩) h, fun b o h => hb.frozen (p := ⟨b, o, none⟩) h⟩

set_option maxHeartbeats 1000000 in
theorem awake_any (w : World) : Calls Try.prog 9 #[] w fun e w' => e = .returned (.bool true) ∧ Below w.heap.size w w' := by
  have hA := fun w => limAdd1 (fun _ => 18446744073709551615) (fun _ => 1) w (fun _ => (by decide : (0 : Int) ≤ 18446744073709551615 ∧ (18446744073709551615 : Int) ≤ 18446744073709551615)) (fun _ => (by decide : (0 : Int) ≤ 1 ∧ (1 : Int) ≤ 18446744073709551615))
  have hA' : ∀ w, Calls Try.prog 10 #[.agg #[.int .u64 18446744073709551615], .agg #[.int .u64 1]] w fun e w' => e = .returned (.tuple #[.agg #[.int .u64 0], .int .u64 1]) ∧ Below w.heap.size w w' := hA
  have hD := fun w => limDiv2 (fun i => if i = 0 then 100 else 0) 7 w (by decide) (by
    intro j hj w
    match j, hj with
    | 0, _ => exact div64_0 100 7 w (by decide) (by decide)
    | 1, _ => exact div64_0 0 7 w (by decide) (by decide))
  have hD' : ∀ w, Calls Try.prog 48 #[.agg #[.int .u64 100, .int .u64 0], .int .u64 7] w fun e w' => e = .returned (.tuple #[.agg #[.int .u64 14, .int .u64 0], .int .u64 2]) ∧ Below w.heap.size w w' := hD
  clear hA hD
  have e1 : ∀ w : World, (Op.equalIn 10000 25 (.agg #[.int .u64 0]) (.agg #[.int .u64 0])).run Try.prog w = .ok true w := fun _ => by kernel_rfl
  have e2 : ∀ w : World, (Op.equalIn 10000 28 (.agg #[.int .u64 14, .int .u64 0]) (.agg #[.int .u64 14, .int .u64 0])).run Try.prog w = .ok true w := fun _ => by kernel_rfl
  go_enter Try.func9, Try.ntmps9
  go_wp2_with (first | (go_at_call 10; refine (hA' _).mono ?_; rintro e w1 ⟨rfl, hb1⟩) | (go_at_call 48; refine (hD' _).mono ?_; rintro e w2 ⟨rfl, hb2⟩; obtain ⟨hc2, hf2⟩ := bcell hb2; have hz2 : w1.heap.size < w2.heap.size := by have := hb2.size; simp at this; omega))
  go_ret
  refine ⟨rfl, ?_⟩
  refine Below.alloc (Below.trans (Below.alloc hb1 ?_ _) (hb2.mono ?_)) ?_ _
  · exact hb1.size
  · have := hb1.size; simp; omega
  · have := hb1.size; omega
end Go.Proofs.Ytbbjkpcccimcbaa
