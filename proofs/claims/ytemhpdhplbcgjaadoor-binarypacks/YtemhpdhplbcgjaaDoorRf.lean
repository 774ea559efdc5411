/-
  What the document's own Right, Left, Less, Add, Bits do, by value.
-/
import Derived.Test.YtemhpdhplbcgjaaDoorLv4
import Derived.Test.YtemhpdhplbcgjaaDoorFit
import Derived.Test.YtemhpdhplbcgjaaDoorBs
set_option linter.unusedVariables false
set_option linter.unusedSectionVars false
set_option linter.unusedSimpArgs false
set_option maxRecDepth 20000
namespace Go.Proofs.YtemhpdhplbcgjaaDoor
open Go.RowKit
theorem rless_tr (a a' : Option Addr) (n c n' c' : Nat) (x y : Nat → Int) (w : World) (hn : n < 4294967290) (hn' : n' < 4294967290) (h : Num w a n c x) (h' : Num w a' n' c' y) :
    Calls Tryd.prog 41 #[.slice a n c, .slice a' n' c'] w fun e w' => ∃ g k cap, e = .returned (.slice (some ⟨g, 0, none⟩) k cap) ∧ k ≤ max n n' ∧ Num w' (some ⟨g, 0, none⟩) k cap (difZ x y (max n n')) ∧ sizeL (difZ x y (max n n')) k = k ∧ Below w.heap.size w w' := by
  have hx := h.2.2.1
  have hy := h'.2.2.1
  have zx := h.2.2.2.1
  have zy := h'.2.2.2.1
  obtain ⟨M, hM⟩ : ∃ M, max n n' = M := ⟨_, rfl⟩
  have hMi : max (n : Int) n' = (M : Int) := by omega
  have hMb : M < 4294967292 := by omega
  have hmk := fun w => make_any (max (n : Int) n') M hMi (by omega) w
  have hfin : ∀ (ss : Array Value), ss.size = M → (∀ j h, ss[j]'h = Value.int .u64 (difW x y j)) → Num (w.alloc (.cells ss 22)) (some ⟨w.heap.size, 0, none⟩) M M (difZ x y (max n n')) := fun ss h1 h2 => num_of_block (by omega) (difZ_words x y _) (fun i hi => by unfold difZ; rw [if_neg (by omega)]) h1 (fun j hj => by rw [h2 j hj]; unfold difZ; rw [if_pos (by omega)])
  have hw1 := fun (i : Nat) (ss : Array Value) => word_any a n c i x (w.alloc (.cells ss 22)) (h.next (below1 w _))
  have hw2 := fun (i : Nat) (ss : Array Value) => word_any a' n' c' i y (w.alloc (.cells ss 22)) (h'.next (below1 w _))
  have HM : Hid (max n n' = M) := hM
  have HZ : Hid ((arrOf (fun _ => 0) M).size = M ∧ ∀ j h, (arrOf (fun _ => 0) M)[j]'h = Value.int .u64 0) := ⟨arrOf_size _ _, fun j h => arrOf_get _ _ _ _⟩
  clear h h' zx zy hM hMi
  generalize arrOf (fun _ => 0) M = zz at *
  go_enter Tryd.func41, Tryd.ntmps41
  go_wp2
  go_loopw [6, 7, 16, 19] (fun c u7 i u20 wr => ∃ (k : Nat) (ss : Array Value), k ≤ M ∧ i = .int .i64 k ∧ c = .int .u64 (borW x y k) ∧ ss.size = M ∧ (∀ j h, ss[j]'h = Value.int .u64 (if j < k then difW x y j else 0)) ∧ wr = w.alloc (.cells ss 22)) (fun _ _ i _ _ => M - (intOf i).toNat)
  case atStart => exact ⟨0, zz, Nat.zero_le _, rfl, rfl, HZ.out.1, fun j h => by rw [HZ.out.2 j h]; simp, rfl⟩
  case round =>
    obtain ⟨k, ss, hk, rfl, rfl, hsz, hss, rfl⟩ := hrel
    have hcar := borW_01 x y k
    by_cases h8 : k < M
    · have h8i : (k : Int) < M := by omega
      have h8s : k < ss.size := by omega
      have bx := hx k
      have b_y := hy k
      have hsk : ss[k]? = some (.int .u64 0) := by rw [Array.getElem?_eq_getElem h8s, hss k h8s, if_neg (by omega)]
      have hadd := fun w => sub64 (x k) (y k) (borW x y k) bx.1 b_y.1 (by omega) hcar.1 hcar.2 w
      have hwa := hw1 k ss
      have hwb := hw2 k ss
      have HR : Hid (∀ (i : Nat) (h : i < (ss.setIfInBounds k (.int .u64 (difW x y k))).size), (ss.setIfInBounds k (.int .u64 (difW x y k)))[i]'h = Value.int .u64 (if i < k + 1 then difW x y i else 0)) := set_next hss
      clear hss hw1 hw2 hfin hmk hx hy
      go_wp2_with (first | (go_at_call_of 53 (Value.slice a n c); refine hwa.mono ?_; rintro e w' ⟨rfl, rfl⟩) | (go_at_call_of 53 (Value.slice a' n' c'); refine hwb.mono ?_; rintro e w' ⟨rfl, rfl⟩))
      go_roundw
      case rel => exact ⟨k + 1, ss.setIfInBounds k (.int .u64 (difW x y k)), by omega, by go_num, rfl, by simp [hsz], HR.out, rfl⟩
      case measure => simp [intOf]; omega
    · obtain rfl : k = M := by omega
      have hss' : ∀ j h, ss[j]'h = Value.int .u64 (difW x y j) := by
        intro j h; rw [hss j h, if_pos (by omega)]
      have hT := trim_any _ _ _ _ _ (by omega) (hfin ss hsz hss')
      have hle := sizeL_le (difZ x y (max n n')) k
      clear hss hss' hw1 hw2 hfin hmk hx hy
      go_wp2_with (go_at_call 54; refine hT.mono ?_; rintro e w1 ⟨g, cap, rfl, hN, hB⟩)
      go_ret
      exact ⟨g, _, cap, rfl, Nat.le_trans hle (Nat.le_of_eq HM.out.symm), hN, sizeL_sizeL _ _, (below1 w _).trans (hB.mono (by simp))⟩

/-- a natural number, of at most K words -/
def NV (K V : Nat) (v : Value) (w : World) : Prop := ∃ g k cap z, v = .slice (some ⟨g, 0, none⟩) k cap ∧ k ≤ K ∧ Num w (some ⟨g, 0, none⟩) k cap z ∧ val z k = (V : Int)
theorem NV.next {K V : Nat} {v : Value} {w w' : World} (h : NV K V v w) (hb : Below w.heap.size w w') : NV K V v w' := by
  obtain ⟨g, k, cap, z, h1, h2, h3, h4⟩ := h
  exact ⟨g, k, cap, z, h1, h2, h3.next hb, h4⟩
theorem NV.more {K K' V : Nat} {v : Value} {w : World} (h : NV K V v w) (hk : K ≤ K') : NV K' V v w := by
  obtain ⟨g, k, cap, z, h1, h2, h3, h4⟩ := h
  exact ⟨g, k, cap, z, h1, by omega, h3, h4⟩
theorem rright_nv {K A : Nat} {v : Value} {w : World} (s : Nat) (hK : K < 1000) (hs : s ≤ 600) (h : NV K A v w) :
    Calls Tryd.prog 51 #[v, .int .i64 s] w fun e w' => ∃ v' b, e = .returned (.tuple #[v', .bool b]) ∧ NV K (A / 2 ^ s) v' w' ∧ Below w.heap.size w w' := by
  obtain ⟨g, k, cap, z, rfl, hk, hN, hv⟩ := h
  obtain ⟨q, hq⟩ : ∃ q : Nat, (s : Int) / 64 = q := ⟨((s : Int) / 64).toNat, by omega⟩
  obtain ⟨r, hr⟩ : ∃ r : Nat, (s : Int) % 64 = r := ⟨((s : Int) % 64).toNat, by omega⟩
  have hsn : s = 64 * q + r := by omega
  have hr6 : r < 64 := by omega
  have key : ∀ (w' : World) (g' k' cap' : Nat), k' ≤ k → Num w' (some ⟨g', 0, none⟩) k' cap' (shrW z q r) → NV K (A / 2 ^ s) (.slice (some ⟨g', 0, none⟩) k' cap') w' := fun w' g' k' cap' hk' hN' => by
    refine ⟨g', k', cap', _, rfl, by omega, hN', ?_⟩
    rw [← val_more hN'.2.2.2.1 k hk', hsn]
    exact shrW_val hN.2.2.1 hN.2.2.2.1 hr6 k (Nat.le_refl _) hv
  by_cases h0 : r = 0
  · subst h0
    refine (right_z g 0 k cap q s z w (by omega) (by omega) hq (by omega) (by omega) hN).mono ?_
    rintro e w' ⟨g', k', cap', b, rfl, hk', hN', hb⟩
    exact ⟨_, b, rfl, key w' g' k' cap' hk' hN', hb⟩
  · refine (right_p g 0 k cap q r s z w (by omega) (by omega) hr6 (by omega) hq hr (by omega) hN).mono ?_
    rintro e w' ⟨g', k', cap', b, rfl, hk', hN', hb⟩
    exact ⟨_, b, rfl, key w' g' k' cap' hk' hN', hb⟩
theorem rleft_nv {K A : Nat} {v : Value} {w : World} (s : Nat) (hK : K < 1000) (hs : s ≤ 600) (h : NV K A v w) :
    Calls Tryd.prog 52 #[v, .int .i64 s] w fun e w' => ∃ v', e = .returned v' ∧ NV (K + 11) (A * 2 ^ s) v' w' ∧ Below w.heap.size w w' := by
  obtain ⟨g, k, cap, z, rfl, hk, hN, hv⟩ := h
  obtain ⟨q, hq⟩ : ∃ q : Nat, (s : Int) / 64 = q := ⟨((s : Int) / 64).toNat, by omega⟩
  obtain ⟨r, hr⟩ : ∃ r : Nat, (s : Int) % 64 = r := ⟨((s : Int) % 64).toNat, by omega⟩
  have hsn : s = 64 * q + r := by omega
  have hr6 : r < 64 := by omega
  have key : ∀ (w' : World) (g' k' cap' : Nat), k' ≤ k + q + 1 → Num w' (some ⟨g', 0, none⟩) k' cap' (finL z q r) → NV (K + 11) (A * 2 ^ s) (.slice (some ⟨g', 0, none⟩) k' cap') w' := fun w' g' k' cap' hk' hN' => by
    refine ⟨g', k', cap', _, rfl, by omega, hN', ?_⟩
    rw [← val_more hN'.2.2.2.1 (k + q + 1) hk', finL_val hN.2.2.1 hN.2.2.2.1 q hr6, hv, hsn]
    simp
  by_cases h0 : r = 0
  · subst h0
    refine (left_z g 0 k cap q s z w (by omega) (by omega) hq (by omega) (by omega) hN).mono ?_
    rintro e w' ⟨g', k', cap', rfl, hk', hN', hb⟩
    exact ⟨_, rfl, key w' g' k' cap' hk' hN', hb⟩
  · refine (left_p g 0 k cap q r s z w (by omega) (by omega) hr6 (by omega) hq hr (by omega) hN).mono ?_
    rintro e w' ⟨g', k', cap', rfl, hk', hN', hb⟩
    exact ⟨_, rfl, key w' g' k' cap' hk' hN', hb⟩
/-- a natural number without noughts at its end -/
def NT (K V : Nat) (v : Value) (w : World) : Prop := ∃ g k cap z, v = .slice (some ⟨g, 0, none⟩) k cap ∧ k ≤ K ∧ Num w (some ⟨g, 0, none⟩) k cap z ∧ val z k = (V : Int) ∧ sizeL z k = k
theorem NT.nv {K V : Nat} {v : Value} {w : World} (h : NT K V v w) : NV K V v w := by
  obtain ⟨g, k, cap, z, h1, h2, h3, h4, _⟩ := h
  exact ⟨g, k, cap, z, h1, h2, h3, h4⟩
theorem NT.next {K V : Nat} {v : Value} {w w' : World} (h : NT K V v w) (hb : Below w.heap.size w w') : NT K V v w' := by
  obtain ⟨g, k, cap, z, h1, h2, h3, h4, h5⟩ := h
  exact ⟨g, k, cap, z, h1, h2, h3.next hb, h4, h5⟩
theorem rless_nt {K K' A B : Nat} {v v' : Value} {w : World} (hK : K < 1000) (hK' : K' < 1000) (h : NV K A v w) (h' : NV K' B v' w) (hv : B ≤ A) :
    Calls Tryd.prog 41 #[v, v'] w fun e w' => ∃ r, e = .returned r ∧ NT (K + K') (A - B) r w' ∧ Below w.heap.size w w' := by
  obtain ⟨g, k, c, z, rfl, hk, hN, hz⟩ := h
  obtain ⟨g2, k2, c2, z2, rfl, hk2, hN2, hz2⟩ := h'
  refine (rless_tr _ _ k c k2 c2 z z2 w (by omega) (by omega) hN hN2).mono fun e w' ⟨g3, k3, cap3, e1, hk3, hN3, ht, hB⟩ => ⟨_, e1, ⟨g3, k3, cap3, _, rfl, by omega, hN3, ?_, ht⟩, hB⟩
  have ex := val_more hN.2.2.2.1 (max k k2) (by omega)
  have ey := val_more hN2.2.2.2.1 (max k k2) (by omega)
  have e := dif_val hN.2.2.1 hN2.2.2.1 (max k k2)
  rw [borW_end hN.2.2.1 hN2.2.2.1 (by omega), ex, ey] at e
  rw [← val_more hN3.2.2.2.1 _ hk3, val_congr (y := difW z z2) (max k k2) fun i hi => by unfold difZ; rw [if_pos hi]]
  omega
theorem radd_nv {K K' A B : Nat} {v v' : Value} {w : World} (hK : K < 1000000) (hK' : K' < 1000000) (h : NV K A v w) (h' : NV K' B v' w) :
    Calls Tryd.prog 29 #[v, v'] w fun e w' => ∃ r, e = .returned r ∧ NV (K + K' + 1) (A + B) r w' ∧ Below w.heap.size w w' := by
  obtain ⟨g, k, c, z, rfl, hk, hN, hz⟩ := h
  obtain ⟨g2, k2, c2, z2, rfl, hk2, hN2, hz2⟩ := h'
  refine (radd_val _ _ k c k2 c2 z z2 w (by omega) (by omega) hN hN2).mono fun e w' ⟨g3, k3, cap3, z3, e1, hk3, hN3, hv3, hB⟩ => ⟨_, e1, ⟨g3, k3, cap3, z3, rfl, by omega, hN3, ?_⟩, hB⟩
  rw [hv3, hz, hz2]; omega
theorem NT.zero {K V : Nat} {v : Value} {w : World} (h : NT K V v w) : ∃ g k cap, v = .slice (some ⟨g, 0, none⟩) k cap ∧ k ≤ K ∧ (k = 0 ↔ V = 0) := by
  obtain ⟨g, k, cap, z, h1, h2, h3, h4, h5⟩ := h
  refine ⟨g, k, cap, h1, h2, ?_⟩
  constructor
  · intro hk; subst hk
    have : val z 0 = 0 := rfl
    omega
  · intro hV
    rcases Nat.eq_zero_or_pos k with hk | hk
    · exact hk
    · exfalso
      have ht := sizeL_top (x := z) k (by omega)
      rw [h5] at ht
      obtain ⟨j, rfl⟩ : ∃ j, k = j + 1 := ⟨k - 1, by omega⟩
      have hs : val z (j + 1) = val z j + z j * 18446744073709551616 ^ j := rfl
      have hb := val_bd h3.2.2.1 j
      have hp := pw_pos j
      have hj := h3.2.2.1 j
      have hz : z j ≠ 0 := ht
      have : 1 * 18446744073709551616 ^ j ≤ z j * 18446744073709551616 ^ j := Int.mul_le_mul_of_nonneg_right (by omega) (Int.le_of_lt hp)
      omega
end Go.Proofs.YtemhpdhplbcgjaaDoor
