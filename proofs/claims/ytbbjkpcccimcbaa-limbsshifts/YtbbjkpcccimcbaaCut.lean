/-
  What the statements' own cut, is and added do: contracts.
-/
import Derived.Test.YtbbjkpcccimcbaaRight
set_option linter.unusedVariables false
set_option linter.unusedSimpArgs false
namespace Go.Proofs.Ytbbjkpcccimcbaa
open Go.RowKit

/-- the words below q -/
def lowW (x : Nat → Int) (q i : Nat) : Int := if i < q then x i else 0
theorem lowW_words {x : Nat → Int} (hx : Words x) (q : Nat) : Words (lowW x q) := fun i => by unfold lowW; split; exact hx i; decide
theorem cmpL_same {x y : Nat → Int} : ∀ n, (∀ i, i < n → x i = y i) → cmpL x y n = 0
  | 0, _ => rfl
  | n + 1, h => by
    have := h n (by omega)
    simp only [cmpL]
    rw [if_neg (by omega), if_neg (by omega)]
    exact cmpL_same n fun i hi => h i (by omega)

set_option maxHeartbeats 400000 in
theorem same_any (a a' : Option Addr) (n c n' c' : Nat) (x : Nat → Int) (w : World) (hn : n < 4294967296) (hn' : n' < 4294967296) (h : Num w a n c x) (h' : Num w a' n' c' x) :
    Calls Try.prog 66 #[.slice a n c, .slice a' n' c'] w fun e w' => e = .returned (.bool true) ∧ w' = w := by
  have hc := cmp_any a a' n c n' c' x x w hn hn' h h'
  rw [cmpL_same _ (fun _ _ => rfl)] at hc
  clear h h'
  go_enter Try.func66, Try.ntmps66
  go_wp2_with (go_at_call 22; refine hc.mono ?_; rintro e w' ⟨rfl, rfl⟩)
  go_ret
  exact ⟨rfl, rfl⟩
set_option maxHeartbeats 400000 in
theorem is_any (a a' : Option Addr) (n c n' c' : Nat) (x : Nat → Int) (w : World) (hn : n < 4294967296) (hn' : n' < 4294967296) (h : Num w a n c x) (h' : Num w a' n' c' x) :
    Calls Try.prog 54 #[.slice a n c, .slice a' n' c'] w fun e w' => e = .returned (.bool true) ∧ w = w' := by
  have hc := same_any a a' n c n' c' x w hn hn' h h'
  clear h h'
  go_enter Try.func54, Try.ntmps54
  go_wp2_with (go_at_call 66; refine hc.mono ?_; rintro e w' ⟨rfl, rfl⟩)
  go_ret
  exact ⟨rfl, rfl⟩

theorem finL_back {x : Nat → Int} (hx : Words x) (q j : Nat) : finL (shrW x q 0) q 0 j = if q ≤ j then x j else 0 := by
  unfold finL
  split
  · have e1 : lowp (shrW x q 0) q 0 j = 0 := by unfold lowp; rw [if_neg (by omega)]
    have e2 : shrW x q 0 (j - q) = x j := by unfold shrW; rw [if_pos rfl, show q + (j - q) = j by omega]
    rw [e1, e2, Int.pow_zero, Int.mul_one, wrap_id _ (hx j), zero_orW _ (hx j)]
  · rfl
theorem difZ_cut {x : Nat → Int} {n M : Nat} (hx : Words x) (zx : ∀ i, n ≤ i → x i = 0) (hM : n ≤ M) (q : Nat) : difZ x (finL (shrW x q 0) q 0) M = lowW x q := by
  have hb : ∀ i, borW x (finL (shrW x q 0) q 0) i = 0 := by
    intro i
    induction i with
    | zero => rfl
    | succ i ih =>
      have h1 := hx i
      simp only [borW, ih, bor, finL_back hx]
      rw [if_neg]; split <;> omega
  funext i
  unfold difZ lowW difW
  rw [hb i, finL_back hx]
  have h1 := hx i
  by_cases hi : i < M
  · rw [if_pos hi]
    by_cases hq : q ≤ i
    · rw [if_pos hq, if_neg (by omega)]; simp
    · rw [if_neg hq, if_pos (by omega)]; omega
  · rw [if_neg hi]
    have := zx i (by omega)
    split <;> omega

set_option maxHeartbeats 1000000 in
theorem cut_any (b off n c q : Nat) (x : Nat → Int) (w : World) (hn : n < 4000000) (hq0 : q < 10000) (h : Num w (some ⟨b, off, none⟩) n c x) :
    Calls Try.prog 52 #[.slice (some ⟨b, off, none⟩) n c, .int .i64 q] w fun e w' => ∃ g k cap g' k' cap', e = .returned (.tuple #[.slice (some ⟨g, 0, none⟩) k cap, .slice (some ⟨g', 0, none⟩) k' cap']) ∧ k < 100000000 ∧ k' < 100000000 ∧ Num w' (some ⟨g, 0, none⟩) k cap (lowW x q) ∧ Num w' (some ⟨g', 0, none⟩) k' cap' (fun j => x (q + j)) ∧ Below w.heap.size w w' := by
  have hx := h.2.2.1
  have zx := h.2.2.2.1
  have hR := right_z b off n c q (64 * (q : Int)) x w (by omega) (by omega) (by omega) (by omega) (by omega) h
  have HX : Hid (Num w (some ⟨b, off, none⟩) n c x) := h
  clear h
  go_enter Try.func52, Try.ntmps52
  go_wp2_with (go_at_call 59; refine hR.mono ?_; rintro e w1 ⟨g1, k1, cap1, z, rfl, hk1, hN1, hB1⟩)
  have hL := left_z g1 0 k1 cap1 q (64 * (q : Int)) (shrW x q 0) w1 (by omega) (by omega) (by omega) (by omega) (by omega) hN1
  have HN1 : Hid (Num w1 (some ⟨g1, 0, none⟩) k1 cap1 (shrW x q 0)) := hN1
  clear hR hN1
  go_wp2_with (go_at_call 57; refine hL.mono ?_; rintro e w2 ⟨g2, k2, cap2, rfl, hk2, hN2, hB2⟩)
  have hS := rless_any (some ⟨b, off, none⟩) (some ⟨g2, 0, none⟩) n c k2 cap2 x _ w2 (by omega) (by omega) ((HX.out.next hB1).next hB2) hN2
  have HN1' : Hid (Num w2 (some ⟨g1, 0, none⟩) k1 cap1 (shrW x q 0)) := HN1.out.next hB2
  clear hL hN2 HN1
  go_wp2_with (go_at_call 58; refine hS.mono ?_; rintro e w3 ⟨g3, k3, cap3, rfl, hk3, hN3, hB3⟩)
  have HN1'' := HN1'.out.next hB3
  have e1 : shrW x q 0 = fun j => x (q + j) := by funext j; unfold shrW; rw [if_pos rfl]
  rw [difZ_cut hx zx (Nat.le_max_left _ _) q] at hN3
  rw [e1] at HN1''
  go_ret2
  exact ⟨g3, k3, cap3, g1, k1, cap1, rfl, by omega, by omega, hN3, HN1'', (hB1.trans (hB2.mono hB1.size)).trans (hB3.mono (Nat.le_trans hB1.size hB2.size))⟩

def oneW (c : Int) (j : Nat) : Int := if j = 0 then c else 0
theorem num_one (w : World) (c : Int) (hc : 0 ≤ c ∧ c ≤ 18446744073709551615) : Num (w.alloc (.cells #[.int .u64 c] 22)) (some ⟨w.heap.size, 0, none⟩) 1 1 (oneW c) :=
  num_of_block (by omega) (fun i => by unfold oneW; split; exact hc; decide) (fun i hi => by unfold oneW; rw [if_neg (by omega)]) rfl (fun j hj => match j, hj with | 0, _ => rfl)

set_option maxHeartbeats 1000000 in
theorem added_any (b1 o1 b2 o2 b3 o3 c1 c2 c3 N : Nat) (X Y : Nat → Int) (C : Int) (w : World) (hN : N < 10000) (hC : 0 ≤ C ∧ C ≤ 18446744073709551615)
    (hS : Num w (some ⟨b1, o1, none⟩) N c1 (lowW (sumW X Y) N)) (hX : Num w (some ⟨b2, o2, none⟩) N c2 X) (hY : Num w (some ⟨b3, o3, none⟩) N c3 Y) (hO : oneW C = fun j => sumW X Y (N + j)) :
    Calls Try.prog 16 #[.slice (some ⟨b1, o1, none⟩) N c1, .int .u64 C, .slice (some ⟨b2, o2, none⟩) N c2, .slice (some ⟨b3, o3, none⟩) N c3] w fun e w' => e = .returned (.bool true) ∧ Below w.heap.size w w' := by
  have hA := radd_any (some ⟨b2, o2, none⟩) (some ⟨b3, o3, none⟩) N c2 N c3 X Y w (by omega) (by omega) hX hY
  have HS : Hid (Num w (some ⟨b1, o1, none⟩) N c1 (lowW (sumW X Y) N)) := hS
  have HO : Hid (oneW C = fun j => sumW X Y (N + j)) := hO
  clear hS hX hY hO
  go_enter Try.func16, Try.ntmps16
  go_wp2_with (go_at_call 53; refine hA.mono ?_; rintro e w1 ⟨g1, k1, cap1, rfl, hk1, hN1, hB1⟩)
  have hcut := cut_any g1 0 k1 cap1 N (sumW X Y) w1 (by omega) (by omega) hN1
  clear hA hN1
  go_wp2_with (go_at_call 52; refine hcut.mono ?_; rintro e w2 ⟨g2, k2, cap2, g3, k3, cap3, rfl, hk2, hk3, hN2, hN3, hB2⟩)
  have hB : Below w.heap.size w w2 := hB1.trans (hB2.mono hB1.size)
  have hI1 := is_any (some ⟨b1, o1, none⟩) (some ⟨g2, 0, none⟩) N c1 k2 cap2 _ w2 (by omega) (by omega) (HS.out.next hB1 |>.next hB2) hN2
  rw [← HO.out] at hN3
  have hI2 := is_any (some ⟨w2.heap.size, 0, none⟩) (some ⟨g3, 0, none⟩) 1 1 k3 cap3 _ (w2.alloc (.cells #[.int .u64 C] 22)) (by omega) (by omega) (num_one w2 C hC) (hN3.next (below1 w2 _))
  clear hcut hN2 hN3 HS HO
  go_wp2_with (go_at_call_of 54 (Value.slice (some { block := b1, off := o1 }) N c1); refine hI1.mono ?_; rintro e w' ⟨rfl, rfl⟩)
  go_wp2_with (go_at_call 54; refine hI2.mono ?_; rintro e w' ⟨rfl, rfl⟩)
  go_ret
  exact ⟨rfl, hB.alloc hB.size _⟩
end Go.Proofs.Ytbbjkpcccimcbaa
