/-
  Texts that the proof leans on, joined: Rf, Bv, Rg, Dq, Dr.
-/
import Derived.Test.YtjjaamdgochilaaDoorJ7
import Derived.Test.YtjjaamdgochilaaDoorJ10
import Derived.Test.YtjjaamdgochilaaDoorJ11
import Derived.Test.YtjjaamdgochilaaDoorJ1
set_option linter.unusedVariables false
set_option linter.unusedSectionVars false
set_option linter.unusedSimpArgs false
set_option maxRecDepth 20000
namespace Go.Proofs.YtjjaamdgochilaaDoor
open Go.RowKit
theorem rless_tr (a a' : Option Addr) (n c n' c' : Nat) (x y : Nat → Int) (w : World) (hn : n < 4294967290) (hn' : n' < 4294967290) (h : Num w a n c x) (h' : Num w a' n' c' y) :
    Calls Tryd.prog 63 #[.slice a n c, .slice a' n' c'] w fun e w' => ∃ g k cap, e = .returned (.slice (some ⟨g, 0, none⟩) k cap) ∧ k ≤ max n n' ∧ Num w' (some ⟨g, 0, none⟩) k cap (difZ x y (max n n')) ∧ sizeL (difZ x y (max n n')) k = k ∧ Below w.heap.size w w' := by
  have hx := h.2.2.1
  have hy := h'.2.2.1
  have zx := h.2.2.2.1
  have zy := h'.2.2.2.1
  obtain ⟨M, hM⟩ : ∃ M, max n n' = M := ⟨_, rfl⟩
  have hMi : max (n : Int) n' = (M : Int) := by omega
  have hMb : M < 4294967292 := by omega
  have hmk := fun w => make_any (max (n : Int) n') M hMi (by omega) w
  have hfin : ∀ (ss : Array Value), ss.size = M → (∀ j h, ss[j]'h = Value.int .u64 (difW x y j)) → Num (w.alloc (.cells ss 22)) (some ⟨w.heap.size, 0, none⟩) M M (difZ x y (max n n')) := fun ss h1 h2 => num_of_block (by omega) (difZ_words x y _) (fun i hi => by unfold difZ; rw [if_neg (by omega)]) h1 (fun j hj => by rw [h2 j hj]; unfold difZ; rw [if_pos (by omega)])
  have hw1 := fun (i : Nat) (ss : Array Value) => word_any a n c i x (w.alloc (.cells ss 22)) (h.next (below1 w _))
  have hw2 := fun (i : Nat) (ss : Array Value) => word_any a' n' c' i y (w.alloc (.cells ss 22)) (h'.next (below1 w _))
  have HM : Hid (max n n' = M) := hM
  have HZ : Hid ((arrOf (fun _ => 0) M).size = M ∧ ∀ j h, (arrOf (fun _ => 0) M)[j]'h = Value.int .u64 0) := ⟨arrOf_size _ _, fun j h => arrOf_get _ _ _ _⟩
  clear h h' zx zy hM hMi
  generalize arrOf (fun _ => 0) M = zz at *
  go_enter Tryd.func63, Tryd.ntmps63
  go_wp2
  go_loopw [6, 7, 16, 19] (fun c u7 i u20 wr => ∃ (k : Nat) (ss : Array Value), k ≤ M ∧ i = .int .i64 k ∧ c = .int .u64 (borW x y k) ∧ ss.size = M ∧ (∀ j h, ss[j]'h = Value.int .u64 (if j < k then difW x y j else 0)) ∧ wr = w.alloc (.cells ss 22)) (fun _ _ i _ _ => M - (intOf i).toNat)
  case atStart => exact ⟨0, zz, Nat.zero_le _, rfl, rfl, HZ.out.1, fun j h => by rw [HZ.out.2 j h]; simp, rfl⟩
  case round =>
    obtain ⟨k, ss, hk, rfl, rfl, hsz, hss, rfl⟩ := hrel
    have hcar := borW_01 x y k
    by_cases h8 : k < M
    · have h8i : (k : Int) < M := by omega
      have h8s : k < ss.size := by omega
      have bx := hx k
      have b_y := hy k
      have hsk : ss[k]? = some (.int .u64 0) := by rw [Array.getElem?_eq_getElem h8s, hss k h8s, if_neg (by omega)]
      have hadd := fun w => sub64 (x k) (y k) (borW x y k) bx.1 b_y.1 (by omega) hcar.1 hcar.2 w
      have hwa := hw1 k ss
      have hwb := hw2 k ss
      have HR : Hid (∀ (i : Nat) (h : i < (ss.setIfInBounds k (.int .u64 (difW x y k))).size), (ss.setIfInBounds k (.int .u64 (difW x y k)))[i]'h = Value.int .u64 (if i < k + 1 then difW x y i else 0)) := set_next hss
      clear hss hw1 hw2 hfin hmk hx hy
      go_wp2_with (first | (go_at_call_of 64 (Value.slice a n c); refine hwa.mono ?_; rintro e w' ⟨rfl, rfl⟩) | (go_at_call_of 64 (Value.slice a' n' c'); refine hwb.mono ?_; rintro e w' ⟨rfl, rfl⟩))
      go_roundw
      case rel => exact ⟨k + 1, ss.setIfInBounds k (.int .u64 (difW x y k)), by omega, by go_num, rfl, by simp [hsz], HR.out, rfl⟩
      case measure => simp [intOf]; omega
    · obtain rfl : k = M := by omega
      have hss' : ∀ j h, ss[j]'h = Value.int .u64 (difW x y j) := by
        intro j h; rw [hss j h, if_pos (by omega)]
      have hT := trim_any _ _ _ _ _ (by omega) (hfin ss hsz hss')
      have hle := sizeL_le (difZ x y (max n n')) k
      clear hss hss' hw1 hw2 hfin hmk hx hy
      go_wp2_with (go_at_call 58; refine hT.mono ?_; rintro e w1 ⟨g, cap, rfl, hN, hB⟩)
      go_ret
      exact ⟨g, _, cap, rfl, Nat.le_trans hle (Nat.le_of_eq HM.out.symm), hN, sizeL_sizeL _ _, (below1 w _).trans (hB.mono (by simp))⟩

/-- a natural number, of at most K words -/
def NV (K V : Nat) (v : Value) (w : World) : Prop := ∃ g k cap z, v = .slice (some ⟨g, 0, none⟩) k cap ∧ k ≤ K ∧ Num w (some ⟨g, 0, none⟩) k cap z ∧ val z k = (V : Int)
theorem NV.next {K V : Nat} {v : Value} {w w' : World} (h : NV K V v w) (hb : Below w.heap.size w w') : NV K V v w' := by
  obtain ⟨g, k, cap, z, h1, h2, h3, h4⟩ := h
  exact ⟨g, k, cap, z, h1, h2, h3.next hb, h4⟩
theorem NV.more {K K' V : Nat} {v : Value} {w : World} (h : NV K V v w) (hk : K ≤ K') : NV K' V v w := by
  obtain ⟨g, k, cap, z, h1, h2, h3, h4⟩ := h
  exact ⟨g, k, cap, z, h1, by omega, h3, h4⟩
theorem rright_nv {K A : Nat} {v : Value} {w : World} (s : Nat) (hK : K < 1000) (hs : s ≤ 600) (h : NV K A v w) :
    Calls Tryd.prog 33 #[v, .int .i64 s] w fun e w' => ∃ v' b, e = .returned (.tuple #[v', .bool b]) ∧ NV K (A / 2 ^ s) v' w' ∧ Below w.heap.size w w' := by
  obtain ⟨g, k, cap, z, rfl, hk, hN, hv⟩ := h
  obtain ⟨q, hq⟩ : ∃ q : Nat, (s : Int) / 64 = q := ⟨((s : Int) / 64).toNat, by omega⟩
  obtain ⟨r, hr⟩ : ∃ r : Nat, (s : Int) % 64 = r := ⟨((s : Int) % 64).toNat, by omega⟩
  have hsn : s = 64 * q + r := by omega
  have hr6 : r < 64 := by omega
  have key : ∀ (w' : World) (g' k' cap' : Nat), k' ≤ k → Num w' (some ⟨g', 0, none⟩) k' cap' (shrW z q r) → NV K (A / 2 ^ s) (.slice (some ⟨g', 0, none⟩) k' cap') w' := fun w' g' k' cap' hk' hN' => by
    refine ⟨g', k', cap', _, rfl, by omega, hN', ?_⟩
    rw [← val_more hN'.2.2.2.1 k hk', hsn]
    exact shrW_val hN.2.2.1 hN.2.2.2.1 hr6 k (Nat.le_refl _) hv
  by_cases h0 : r = 0
  · subst h0
    refine (right_z g 0 k cap q s z w (by omega) (by omega) hq (by omega) (by omega) hN).mono ?_
    rintro e w' ⟨g', k', cap', b, rfl, hk', hN', hb⟩
    exact ⟨_, b, rfl, key w' g' k' cap' hk' hN', hb⟩
  · refine (right_p g 0 k cap q r s z w (by omega) (by omega) hr6 (by omega) hq hr (by omega) hN).mono ?_
    rintro e w' ⟨g', k', cap', b, rfl, hk', hN', hb⟩
    exact ⟨_, b, rfl, key w' g' k' cap' hk' hN', hb⟩
theorem rleft_nv {K A : Nat} {v : Value} {w : World} (s : Nat) (hK : K < 1000) (hs : s ≤ 600) (h : NV K A v w) :
    Calls Tryd.prog 52 #[v, .int .i64 s] w fun e w' => ∃ v', e = .returned v' ∧ NV (K + 11) (A * 2 ^ s) v' w' ∧ Below w.heap.size w w' := by
  obtain ⟨g, k, cap, z, rfl, hk, hN, hv⟩ := h
  obtain ⟨q, hq⟩ : ∃ q : Nat, (s : Int) / 64 = q := ⟨((s : Int) / 64).toNat, by omega⟩
  obtain ⟨r, hr⟩ : ∃ r : Nat, (s : Int) % 64 = r := ⟨((s : Int) % 64).toNat, by omega⟩
  have hsn : s = 64 * q + r := by omega
  have hr6 : r < 64 := by omega
  have key : ∀ (w' : World) (g' k' cap' : Nat), k' ≤ k + q + 1 → Num w' (some ⟨g', 0, none⟩) k' cap' (finL z q r) → NV (K + 11) (A * 2 ^ s) (.slice (some ⟨g', 0, none⟩) k' cap') w' := fun w' g' k' cap' hk' hN' => by
    refine ⟨g', k', cap', _, rfl, by omega, hN', ?_⟩
    rw [← val_more hN'.2.2.2.1 (k + q + 1) hk', finL_val hN.2.2.1 hN.2.2.2.1 q hr6, hv, hsn]
    simp
  by_cases h0 : r = 0
  · subst h0
    refine (left_z g 0 k cap q s z w (by omega) (by omega) hq (by omega) (by omega) hN).mono ?_
    rintro e w' ⟨g', k', cap', rfl, hk', hN', hb⟩
    exact ⟨_, rfl, key w' g' k' cap' hk' hN', hb⟩
  · refine (left_p g 0 k cap q r s z w (by omega) (by omega) hr6 (by omega) hq hr (by omega) hN).mono ?_
    rintro e w' ⟨g', k', cap', rfl, hk', hN', hb⟩
    exact ⟨_, rfl, key w' g' k' cap' hk' hN', hb⟩
/-- a natural number without noughts at its end -/
def NT (K V : Nat) (v : Value) (w : World) : Prop := ∃ g k cap z, v = .slice (some ⟨g, 0, none⟩) k cap ∧ k ≤ K ∧ Num w (some ⟨g, 0, none⟩) k cap z ∧ val z k = (V : Int) ∧ sizeL z k = k
theorem NT.nv {K V : Nat} {v : Value} {w : World} (h : NT K V v w) : NV K V v w := by
  obtain ⟨g, k, cap, z, h1, h2, h3, h4, _⟩ := h
  exact ⟨g, k, cap, z, h1, h2, h3, h4⟩
theorem NT.next {K V : Nat} {v : Value} {w w' : World} (h : NT K V v w) (hb : Below w.heap.size w w') : NT K V v w' := by
  obtain ⟨g, k, cap, z, h1, h2, h3, h4, h5⟩ := h
  exact ⟨g, k, cap, z, h1, h2, h3.next hb, h4, h5⟩
theorem rless_nt {K K' A B : Nat} {v v' : Value} {w : World} (hK : K < 1000) (hK' : K' < 1000) (h : NV K A v w) (h' : NV K' B v' w) (hv : B ≤ A) :
    Calls Tryd.prog 63 #[v, v'] w fun e w' => ∃ r, e = .returned r ∧ NT (K + K') (A - B) r w' ∧ Below w.heap.size w w' := by
  obtain ⟨g, k, c, z, rfl, hk, hN, hz⟩ := h
  obtain ⟨g2, k2, c2, z2, rfl, hk2, hN2, hz2⟩ := h'
  refine (rless_tr _ _ k c k2 c2 z z2 w (by omega) (by omega) hN hN2).mono fun e w' ⟨g3, k3, cap3, e1, hk3, hN3, ht, hB⟩ => ⟨_, e1, ⟨g3, k3, cap3, _, rfl, by omega, hN3, ?_, ht⟩, hB⟩
  have ex := val_more hN.2.2.2.1 (max k k2) (by omega)
  have ey := val_more hN2.2.2.2.1 (max k k2) (by omega)
  have e := dif_val hN.2.2.1 hN2.2.2.1 (max k k2)
  rw [borW_end hN.2.2.1 hN2.2.2.1 (by omega), ex, ey] at e
  rw [← val_more hN3.2.2.2.1 _ hk3, val_congr (y := difW z z2) (max k k2) fun i hi => by unfold difZ; rw [if_pos hi]]
  omega
theorem radd_nv {K K' A B : Nat} {v v' : Value} {w : World} (hK : K < 1000000) (hK' : K' < 1000000) (h : NV K A v w) (h' : NV K' B v' w) :
    Calls Tryd.prog 50 #[v, v'] w fun e w' => ∃ r, e = .returned r ∧ NV (K + K' + 1) (A + B) r w' ∧ Below w.heap.size w w' := by
  obtain ⟨g, k, c, z, rfl, hk, hN, hz⟩ := h
  obtain ⟨g2, k2, c2, z2, rfl, hk2, hN2, hz2⟩ := h'
  refine (radd_val _ _ k c k2 c2 z z2 w (by omega) (by omega) hN hN2).mono fun e w' ⟨g3, k3, cap3, z3, e1, hk3, hN3, hv3, hB⟩ => ⟨_, e1, ⟨g3, k3, cap3, z3, rfl, by omega, hN3, ?_⟩, hB⟩
  rw [hv3, hz, hz2]; omega
theorem NT.zero {K V : Nat} {v : Value} {w : World} (h : NT K V v w) : ∃ g k cap, v = .slice (some ⟨g, 0, none⟩) k cap ∧ k ≤ K ∧ (k = 0 ↔ V = 0) := by
  obtain ⟨g, k, cap, z, h1, h2, h3, h4, h5⟩ := h
  refine ⟨g, k, cap, h1, h2, ?_⟩
  constructor
  · intro hk; subst hk
    have : val z 0 = 0 := rfl
    omega
  · intro hV
    rcases Nat.eq_zero_or_pos k with hk | hk
    · exact hk
    · exfalso
      have ht := sizeL_top (x := z) k (by omega)
      rw [h5] at ht
      obtain ⟨j, rfl⟩ : ∃ j, k = j + 1 := ⟨k - 1, by omega⟩
      have hs : val z (j + 1) = val z j + z j * 18446744073709551616 ^ j := rfl
      have hb := val_bd h3.2.2.1 j
      have hp := pw_pos j
      have hj := h3.2.2.1 j
      have hz : z j ≠ 0 := ht
      have : 1 * 18446744073709551616 ^ j ≤ z j * 18446744073709551616 ^ j := Int.mul_le_mul_of_nonneg_right (by omega) (Int.le_of_lt hp)
      omega
end Go.Proofs.YtjjaamdgochilaaDoor

namespace Go.Proofs.YtjjaamdgochilaaDoor
open Go.RowKit

/-- a binary format -/
def binN (n : Int) : Prop := 1 ≤ n ∧ n ≤ 6
instance (n : Int) : Decidable (binN n) := inferInstanceAs (Decidable (_ ∧ _))
def fN (n : Int) : Nat := (precN n - 1).toNat
def eN (n : Int) : Nat := (expN n).toNat
/-- a binary format's pattern -/
def goodN (n : Int) (B : Nat) : Prop := binN n ∧ B < 2 ^ (fN n + eN n + 1)
instance (n : Int) (B : Nat) : Decidable (goodN n B) := inferInstanceAs (Decidable (_ ∧ _))
theorem A4_get (B : Nat) : ∀ i, i < 4 → (#[Value.int .u64 (W4 B 0), .int .u64 (W4 B 1), .int .u64 (W4 B 2), .int .u64 (W4 B 3)] : Array Value)[i]? = some (.int .u64 (W4 B i)) := fun i hi => by
  have : i = 0 ∨ i = 1 ∨ i = 2 ∨ i = 3 := by omega
  rcases this with rfl | rfl | rfl | rfl <;> rfl
theorem fits4 (n : Int) (B : Nat) (hB : B < 2 ^ 256) (w : World) (hT : Tab w) :
    Calls Tryd.prog 35 #[.int .i64 n, A4 B] w fun x w' => x = .returned (.bool (decide (okN n ∧ B < 2 ^ (widthN n).toNat))) ∧ Below w.heap.size w w' := by
  refine (fits_any n (W4 B) (W4_words B) _ (A4_get B) rfl w hT).mono ?_
  rintro x w' ⟨rfl, hb⟩
  refine ⟨?_, hb⟩
  have hwd := (fields_bounds n).2.1
  have e : (fitsP n (W4 B)) ↔ (okN n ∧ B < 2 ^ (widthN n).toNat) := by
    unfold fitsP
    rw [lenL_low]
    have := len4_le (k := (widthN n).toNat) hB
    rw [show (((widthN n).toNat : Nat) : Int) = widthN n by omega] at this
    rw [this]
  rw [decide_eq_decide.2 e]
end Go.Proofs.YtjjaamdgochilaaDoor

namespace Go.Proofs.YtjjaamdgochilaaDoor
open Go.RowKit
attribute [local go_sem ↓] Go.wp_at_zero Go.wp_at_succ

theorem nv_low {k V : Nat} {z : Nat → Int} (hz : Words z) (h0 : ∀ i, k ≤ i → z i = 0) (hv : val z k = (V : Int)) : val z 4 = ((V % 2 ^ 256 : Nat) : Int) := by
  have h1 : val z (4 + k) = (V : Int) := by rw [val_more h0 (4 + k) (by omega), hv]
  rw [val_split z 4 k] at h1
  have hb := val_bd hz 4
  have e4 : (18446744073709551616 : Int) ^ 4 = ((2 ^ 256 : Nat) : Int) := by decide
  rw [e4] at h1 hb
  have h5 := congrArg (· % ((2 ^ 256 : Nat) : Int)) h1
  simp only [Int.add_mul_emod_self_right, Int.emod_eq_of_lt hb.1 hb.2] at h5
  rw [h5]
  rfl
set_option maxHeartbeats 1000000 in
theorem bits_num (g k cap : Nat) (z : Nat → Int) (w : World) (h : Num w (some ⟨g, 0, none⟩) k cap z) :
    Calls Tryd.prog 31 #[.slice (some ⟨g, 0, none⟩) k cap] w fun e w' => e = .returned (.agg (arrOf z 4)) ∧ Below w.heap.size w w' := by
  have hw := fun (i : Nat) (o1 o2 : Obj) => word_any (some ⟨g, 0, none⟩) k cap i z ((w.alloc o1).alloc o2) ((h.next (below1 w _)).next (below1 _ _))
  clear h
  go_enter Tryd.func31, Tryd.ntmps31
  go_wp2
  go_loopw [4, 5] (fun u4 i wr => ∃ (j : Nat) (ss : Array Value), j ≤ 4 ∧ i = .int .i64 j ∧ ss.size = 4 ∧ (∀ q h, ss[q]'h = Value.int .u64 (if q < j then z q else 0)) ∧ wr = (w.alloc (.cells #[.int .u64 0, .int .u64 0, .int .u64 0, .int .u64 0] 24)).alloc (.cells ss 24)) (fun _ i _ => 4 - (intOf i).toNat)
  case atStart => exact ⟨0, _, Nat.zero_le _, rfl, rfl, by intro q h; have h' : q < 4 := h; match q, h' with | 0, _ => rfl | 1, _ => rfl | 2, _ => rfl | 3, _ => rfl, rfl⟩
  case round =>
    obtain ⟨j, ss, hj, rfl, hsz, hss, rfl⟩ := hrel
    by_cases h4 : j < 4
    · have h4i : (j : Int) < 4 := by omega
      have h4s : j < ss.size := by omega
      have hsk : ss[j]? = some (.int .u64 0) := by rw [Array.getElem?_eq_getElem h4s, hss j h4s, if_neg (by omega)]
      have HR : Hid (∀ (i : Nat) (h : i < (ss.setIfInBounds j (.int .u64 (z j))).size), (ss.setIfInBounds j (.int .u64 (z j)))[i]'h = Value.int .u64 (if i < j + 1 then z i else 0)) := set_next hss
      have hwj := hw j (.cells #[.int .u64 0, .int .u64 0, .int .u64 0, .int .u64 0] 24) (.cells ss 24)
      clear hss hw
      go_wp2_with (go_at_call 64; refine hwj.mono ?_; rintro e w' ⟨rfl, rfl⟩)
      go_roundw
      case rel => exact ⟨j + 1, ss.setIfInBounds j (.int .u64 (z j)), by omega, by go_num, by simp [hsz], HR.out, rfl⟩
      case measure => simp [intOf]; omega
    · obtain rfl : j = 4 := by omega
      have hss' : ∀ q h, ss[q]'h = Value.int .u64 (z q) := by
        intro q h; rw [hss q h, if_pos (by omega)]
      clear hss hw
      go_wp2
      exact bodyPost_ret (v := .agg (arrOf z 4)) (by simp [results, Tryd.results31, go_sem]; rfl) rfl ⟨rfl, ((Below.refl _ _).alloc (Nat.le_refl _) _).alloc (by simp) _⟩
theorem bits_nv {K V : Nat} {v : Value} {w : World} (h : NV K V v w) :
    Calls Tryd.prog 31 #[v] w fun e w' => e = .returned (A4 V) ∧ Below w.heap.size w w' := by
  obtain ⟨g, k, cap, z, rfl, hk, hN, hv⟩ := h
  refine (bits_num g k cap z w hN).mono ?_
  rintro e w' ⟨rfl, hb⟩
  refine ⟨?_, hb⟩
  rw [arr_A4 hN.2.2.1 (nv_low hN.2.2.1 hN.2.2.2.1 hv)]
set_option maxHeartbeats 1000000 in
theorem number_nv {K V : Nat} {v : Value} {w : World} (h : NV K V v w) (hK : K < 1000) (hV : V < 9223372036854775808) :
    Calls Tryd.prog 32 #[v] w fun e w' => e = .returned (.int .i64 V) ∧ w' = w := by
  obtain ⟨g, k, cap, z, rfl, hk, hN, hv⟩ := h
  obtain ⟨h1, h2, h3, h4, h5⟩ := hN
  rcases h5 with ⟨h5, _⟩ | ⟨b, off, e, hb, hc⟩
  · cases h5
  · cases e
    rcases Nat.eq_zero_or_pos k with hk0 | hk0
    · subst hk0
      have : V = 0 := by have : val z 0 = 0 := rfl
                         omega
      subst this
      go_enter Tryd.func32, Tryd.ntmps32
      go_wp2
      go_ret
      exact ⟨rfl, rfl⟩
    · have hc0 := hc 0 hk0
      have hz0 := h3 0
      have e0 : z 0 = (V : Int) := by
        have hl := nv_low h3 h4 hv
        obtain ⟨j, rfl⟩ : ∃ j, k = 1 + j := ⟨k - 1, by omega⟩
        have hs := val_split z 1 j
        have hb2 := val_bd (segW_words h3 1 j) j
        have h10 : val z 1 = z 0 := by show val z 0 + z 0 * 18446744073709551616 ^ 0 = z 0; simp [val]
        rw [hv, h10] at hs
        simp only [Int.pow_one] at hs
        have hm : 0 ≤ val (segW z 1 j) j := hb2.1
        by_cases hp : 0 < val (segW z 1 j) j
        · exfalso; omega
        · have : val (segW z 1 j) j = 0 := by omega
          rw [this] at hs; omega
      have hk1 : ¬ ((k : Int) = 0) := by omega
      rw [e0] at hc0
      simp only [Nat.add_zero] at hc0
      have hkb : (k == 0) = false := by simp; omega
      have hki : (0 : Int) < k := by omega
      clear hc h3 h4 hv e0 hz0
      go_enter Tryd.func32, Tryd.ntmps32
      go_wp2
      go_ret
      exact ⟨rfl, rfl⟩
theorem box_nv {w0 w : World} {B : Nat} {t : TypeId} (hB : B < 2 ^ 256) (hb : Below (w0.alloc (.cells #[.int .u64 (W4 B 0), .int .u64 (W4 B 1), .int .u64 (W4 B 2), .int .u64 (W4 B 3)] t)).heap.size (w0.alloc (.cells #[.int .u64 (W4 B 0), .int .u64 (W4 B 1), .int .u64 (W4 B 2), .int .u64 (W4 B 3)] t)) w) :
    NV 4 B (.slice (some ⟨w0.heap.size, 0, none⟩) 4 4) w :=
  ⟨_, 4, 4, _, rfl, Nat.le_refl _, box_num (W4_words B) (A4_get B) hb, by
    rw [val_congr (x := lowW (W4 B) 4) (y := W4 B) 4 (fun i hi => lowW_lt hi), W4_val4 hB]⟩
set_option maxHeartbeats 1000000 in
theorem field_any (B at_ n : Nat) (w : World) (hB : B < 2 ^ 256) (ha : at_ ≤ 600) (hn : n ≤ 600) :
    Calls Tryd.prog 34 #[A4 B, .int .i64 at_, .int .i64 n] w fun e w' => ∃ r, e = .returned r ∧ NT 19 (B / 2 ^ at_ % 2 ^ n) r w' ∧ Below w.heap.size w w' := by
  have hbx := box_nv (w0 := w) (B := B) (t := 24) hB (Below.refl _ _)
  go_enter Tryd.func34, Tryd.ntmps34
  go_wp2_with (first
    | (have := hA2; go_at_call 52; refine (rleft_nv n (by decide) hn hh).mono ?_; rintro e w3 ⟨v3, rfl, hl, hb3⟩; replace hx := hx.next hb3; have hA3 := bnext hA2 hb3)
    | (have := hA1; go_at_call 33; refine (rright_nv n (by decide) hn hx).mono ?_; rintro e w2 ⟨v2, b2, rfl, hh, hb2⟩; replace hx := hx.next hb2; have hA2 := bnext hA1 hb2)
    | (go_at_call 33; refine (rright_nv at_ (by decide) ha hbx).mono ?_; rintro e w1 ⟨v1, b1, rfl, hx, hb1⟩; have hA1 := bnext (w0 := w) bgo hb1)
    | (go_at_call 63; refine (rless_nt (by decide) (by decide) hx hl (Nat.div_mul_le_self _ _)).mono ?_; rintro e w4 ⟨v4, rfl, hr, hb4⟩; have hA4 := bnext hA3 hb4))
  go_ret
  refine ⟨_, rfl, ?_, hA4⟩
  rw [show B / 2 ^ at_ % 2 ^ n = B / 2 ^ at_ - B / 2 ^ at_ / 2 ^ n * 2 ^ n by have := Nat.div_add_mod' (B / 2 ^ at_) (2 ^ n); omega]
  exact hr
end Go.Proofs.YtjjaamdgochilaaDoor

namespace Go.Proofs.YtjjaamdgochilaaDoor
open Go.RowKit
set_option maxHeartbeats 400000 in
theorem great_v (x g : Int) (hx : 0 ≤ x) (hg : x / 8 = g) (w : World) : Calls Tryd.prog 96 #[.int .i64 x] w fun r w' => r = .returned (.int .i64 g) ∧ w = w' := by
  go_enter Tryd.func96, Tryd.ntmps96
  go_wp2
  go_ret
  exact ⟨rfl, rfl⟩
set_option maxHeartbeats 400000 in
theorem known_v (n : Int) (w : World) : Calls Tryd.prog 86 #[.int .i64 n] w fun r w' => r = .returned (.bool (decide (0 ≤ n ∧ n ≤ 11))) ∧ w = w' := by
  by_cases h0 : 0 ≤ n
  · go_enter Tryd.func86, Tryd.ntmps86
    go_wp2
    go_ret
    exact ⟨by simp [h0], rfl⟩
  · rw [decide_eq_false (fun h => h0 h.1)]
    go_enter Tryd.func86, Tryd.ntmps86
    go_wp2
    go_ret
    exact ⟨rfl, rfl⟩
set_option maxHeartbeats 1000000 in
theorem fields_0 (a b c x y z : Int) (w : World)
    (ga : ∀ W, Calls Tryd.prog 96 #[.int .i64 a] W fun r w' => r = .returned (.int .i64 0) ∧ W = w')
    (gb : ∀ W, Calls Tryd.prog 96 #[.int .i64 b] W fun r w' => r = .returned (.int .i64 0) ∧ W = w')
    (gc : ∀ W, Calls Tryd.prog 96 #[.int .i64 c] W fun r w' => r = .returned (.int .i64 0) ∧ W = w')
    (ha : 0 ≤ a) (hb : 0 ≤ b) (hc : 0 ≤ c) (hx : bits .and .i64 (a / 2) 3 = x) (hy : bits .and .i64 (b / 2) 3 = y) (hz : bits .and .i64 (c / 2) 3 = z) :
    Calls Tryd.prog 95 #[.int .i64 a, .int .i64 b, .int .i64 c] w fun r w' => r = .returned (.tuple #[.int .i64 x, .int .i64 y, .int .i64 z]) ∧ w = w' := by
  have o1 : bits .or .i64 0 0 = 0 := by decide
  have o2 : bits .or .i64 0 0 = 0 := by decide
  go_enter Tryd.func95, Tryd.ntmps95
  go_wp2_with (go_at_call 96; first
    | (refine (ga _).mono ?_; rintro r w1 ⟨rfl, rfl⟩; clear ga)
    | (refine (gb _).mono ?_; rintro r w1 ⟨rfl, rfl⟩; clear gb)
    | (refine (gc _).mono ?_; rintro r w1 ⟨rfl, rfl⟩; clear gc))
  exact bodyPost_ret (by simp only [results, Tryd.results95]; go_simp) rfl ⟨rfl, rfl⟩
set_option maxHeartbeats 1000000 in
theorem fields_1 (a b c x y z : Int) (w : World)
    (ga : ∀ W, Calls Tryd.prog 96 #[.int .i64 a] W fun r w' => r = .returned (.int .i64 0) ∧ W = w')
    (gb : ∀ W, Calls Tryd.prog 96 #[.int .i64 b] W fun r w' => r = .returned (.int .i64 0) ∧ W = w')
    (gc : ∀ W, Calls Tryd.prog 96 #[.int .i64 c] W fun r w' => r = .returned (.int .i64 1) ∧ W = w')
    (ha : 0 ≤ a) (hb : 0 ≤ b) (hc : 0 ≤ c) (hx : bits .and .i64 (a / 2) 3 = x) (hy : bits .and .i64 (b / 2) 3 = y) (hz : bits .and .i64 (c / 2) 3 = z) :
    Calls Tryd.prog 95 #[.int .i64 a, .int .i64 b, .int .i64 c] w fun r w' => r = .returned (.tuple #[.int .i64 x, .int .i64 y, .int .i64 4]) ∧ w = w' := by
  have o1 : bits .or .i64 0 0 = 0 := by decide
  have o2 : bits .or .i64 0 1 = 1 := by decide
  go_enter Tryd.func95, Tryd.ntmps95
  go_wp2_with (go_at_call 96; first
    | (refine (ga _).mono ?_; rintro r w1 ⟨rfl, rfl⟩; clear ga)
    | (refine (gb _).mono ?_; rintro r w1 ⟨rfl, rfl⟩; clear gb)
    | (refine (gc _).mono ?_; rintro r w1 ⟨rfl, rfl⟩; clear gc))
  exact bodyPost_ret (by simp only [results, Tryd.results95]; go_simp) rfl ⟨rfl, rfl⟩
set_option maxHeartbeats 1000000 in
theorem fields_2 (a b c x y z : Int) (w : World)
    (ga : ∀ W, Calls Tryd.prog 96 #[.int .i64 a] W fun r w' => r = .returned (.int .i64 0) ∧ W = w')
    (gb : ∀ W, Calls Tryd.prog 96 #[.int .i64 b] W fun r w' => r = .returned (.int .i64 1) ∧ W = w')
    (gc : ∀ W, Calls Tryd.prog 96 #[.int .i64 c] W fun r w' => r = .returned (.int .i64 0) ∧ W = w')
    (ha : 0 ≤ a) (hb : 0 ≤ b) (hc : 0 ≤ c) (hx : bits .and .i64 (a / 2) 3 = x) (hy : bits .and .i64 (b / 2) 3 = y) (hz : bits .and .i64 (c / 2) 3 = z) :
    Calls Tryd.prog 95 #[.int .i64 a, .int .i64 b, .int .i64 c] w fun r w' => r = .returned (.tuple #[.int .i64 x, .int .i64 z, .int .i64 5]) ∧ w = w' := by
  have o1 : bits .or .i64 0 2 = 2 := by decide
  have o2 : bits .or .i64 2 0 = 2 := by decide
  go_enter Tryd.func95, Tryd.ntmps95
  go_wp2_with (go_at_call 96; first
    | (refine (ga _).mono ?_; rintro r w1 ⟨rfl, rfl⟩; clear ga)
    | (refine (gb _).mono ?_; rintro r w1 ⟨rfl, rfl⟩; clear gb)
    | (refine (gc _).mono ?_; rintro r w1 ⟨rfl, rfl⟩; clear gc))
  exact bodyPost_ret (by simp only [results, Tryd.results95]; go_simp) rfl ⟨rfl, rfl⟩
set_option maxHeartbeats 1000000 in
theorem fields_4 (a b c x y z : Int) (w : World)
    (ga : ∀ W, Calls Tryd.prog 96 #[.int .i64 a] W fun r w' => r = .returned (.int .i64 1) ∧ W = w')
    (gb : ∀ W, Calls Tryd.prog 96 #[.int .i64 b] W fun r w' => r = .returned (.int .i64 0) ∧ W = w')
    (gc : ∀ W, Calls Tryd.prog 96 #[.int .i64 c] W fun r w' => r = .returned (.int .i64 0) ∧ W = w')
    (ha : 0 ≤ a) (hb : 0 ≤ b) (hc : 0 ≤ c) (hx : bits .and .i64 (a / 2) 3 = x) (hy : bits .and .i64 (b / 2) 3 = y) (hz : bits .and .i64 (c / 2) 3 = z) :
    Calls Tryd.prog 95 #[.int .i64 a, .int .i64 b, .int .i64 c] w fun r w' => r = .returned (.tuple #[.int .i64 z, .int .i64 y, .int .i64 6]) ∧ w = w' := by
  have o1 : bits .or .i64 4 0 = 4 := by decide
  have o2 : bits .or .i64 4 0 = 4 := by decide
  go_enter Tryd.func95, Tryd.ntmps95
  go_wp2_with (go_at_call 96; first
    | (refine (ga _).mono ?_; rintro r w1 ⟨rfl, rfl⟩; clear ga)
    | (refine (gb _).mono ?_; rintro r w1 ⟨rfl, rfl⟩; clear gb)
    | (refine (gc _).mono ?_; rintro r w1 ⟨rfl, rfl⟩; clear gc))
  exact bodyPost_ret (by simp only [results, Tryd.results95]; go_simp) rfl ⟨rfl, rfl⟩
set_option maxHeartbeats 1000000 in
theorem fields_3 (a b c x y z : Int) (w : World)
    (ga : ∀ W, Calls Tryd.prog 96 #[.int .i64 a] W fun r w' => r = .returned (.int .i64 0) ∧ W = w')
    (gb : ∀ W, Calls Tryd.prog 96 #[.int .i64 b] W fun r w' => r = .returned (.int .i64 1) ∧ W = w')
    (gc : ∀ W, Calls Tryd.prog 96 #[.int .i64 c] W fun r w' => r = .returned (.int .i64 1) ∧ W = w')
    (ha : 0 ≤ a) (hb : 0 ≤ b) (hc : 0 ≤ c) (hx : bits .and .i64 (a / 2) 3 = x) (hy : bits .and .i64 (b / 2) 3 = y) (hz : bits .and .i64 (c / 2) 3 = z) :
    Calls Tryd.prog 95 #[.int .i64 a, .int .i64 b, .int .i64 c] w fun r w' => r = .returned (.tuple #[.int .i64 x, .int .i64 2, .int .i64 7]) ∧ w = w' := by
  have o1 : bits .or .i64 0 2 = 2 := by decide
  have o2 : bits .or .i64 2 1 = 3 := by decide
  go_enter Tryd.func95, Tryd.ntmps95
  go_wp2_with (go_at_call 96; first
    | (refine (ga _).mono ?_; rintro r w1 ⟨rfl, rfl⟩; clear ga)
    | (refine (gb _).mono ?_; rintro r w1 ⟨rfl, rfl⟩; clear gb)
    | (refine (gc _).mono ?_; rintro r w1 ⟨rfl, rfl⟩; clear gc))
  exact bodyPost_ret (by simp only [results, Tryd.results95]; go_simp) rfl ⟨rfl, rfl⟩
set_option maxHeartbeats 1000000 in
theorem fields_5 (a b c x y z : Int) (w : World)
    (ga : ∀ W, Calls Tryd.prog 96 #[.int .i64 a] W fun r w' => r = .returned (.int .i64 1) ∧ W = w')
    (gb : ∀ W, Calls Tryd.prog 96 #[.int .i64 b] W fun r w' => r = .returned (.int .i64 0) ∧ W = w')
    (gc : ∀ W, Calls Tryd.prog 96 #[.int .i64 c] W fun r w' => r = .returned (.int .i64 1) ∧ W = w')
    (ha : 0 ≤ a) (hb : 0 ≤ b) (hc : 0 ≤ c) (hx : bits .and .i64 (a / 2) 3 = x) (hy : bits .and .i64 (b / 2) 3 = y) (hz : bits .and .i64 (c / 2) 3 = z) :
    Calls Tryd.prog 95 #[.int .i64 a, .int .i64 b, .int .i64 c] w fun r w' => r = .returned (.tuple #[.int .i64 y, .int .i64 1, .int .i64 7]) ∧ w = w' := by
  have o1 : bits .or .i64 4 0 = 4 := by decide
  have o2 : bits .or .i64 4 1 = 5 := by decide
  go_enter Tryd.func95, Tryd.ntmps95
  go_wp2_with (go_at_call 96; first
    | (refine (ga _).mono ?_; rintro r w1 ⟨rfl, rfl⟩; clear ga)
    | (refine (gb _).mono ?_; rintro r w1 ⟨rfl, rfl⟩; clear gb)
    | (refine (gc _).mono ?_; rintro r w1 ⟨rfl, rfl⟩; clear gc))
  exact bodyPost_ret (by simp only [results, Tryd.results95]; go_simp) rfl ⟨rfl, rfl⟩
set_option maxHeartbeats 1000000 in
theorem fields_6 (a b c x y z : Int) (w : World)
    (ga : ∀ W, Calls Tryd.prog 96 #[.int .i64 a] W fun r w' => r = .returned (.int .i64 1) ∧ W = w')
    (gb : ∀ W, Calls Tryd.prog 96 #[.int .i64 b] W fun r w' => r = .returned (.int .i64 1) ∧ W = w')
    (gc : ∀ W, Calls Tryd.prog 96 #[.int .i64 c] W fun r w' => r = .returned (.int .i64 0) ∧ W = w')
    (ha : 0 ≤ a) (hb : 0 ≤ b) (hc : 0 ≤ c) (hx : bits .and .i64 (a / 2) 3 = x) (hy : bits .and .i64 (b / 2) 3 = y) (hz : bits .and .i64 (c / 2) 3 = z) :
    Calls Tryd.prog 95 #[.int .i64 a, .int .i64 b, .int .i64 c] w fun r w' => r = .returned (.tuple #[.int .i64 z, .int .i64 0, .int .i64 7]) ∧ w = w' := by
  have o1 : bits .or .i64 4 2 = 6 := by decide
  have o2 : bits .or .i64 6 0 = 6 := by decide
  go_enter Tryd.func95, Tryd.ntmps95
  go_wp2_with (go_at_call 96; first
    | (refine (ga _).mono ?_; rintro r w1 ⟨rfl, rfl⟩; clear ga)
    | (refine (gb _).mono ?_; rintro r w1 ⟨rfl, rfl⟩; clear gb)
    | (refine (gc _).mono ?_; rintro r w1 ⟨rfl, rfl⟩; clear gc))
  exact bodyPost_ret (by simp only [results, Tryd.results95]; go_simp) rfl ⟨rfl, rfl⟩
set_option maxHeartbeats 1000000 in
theorem fields_7 (a b c x y z : Int) (w : World)
    (ga : ∀ W, Calls Tryd.prog 96 #[.int .i64 a] W fun r w' => r = .returned (.int .i64 1) ∧ W = w')
    (gb : ∀ W, Calls Tryd.prog 96 #[.int .i64 b] W fun r w' => r = .returned (.int .i64 1) ∧ W = w')
    (gc : ∀ W, Calls Tryd.prog 96 #[.int .i64 c] W fun r w' => r = .returned (.int .i64 1) ∧ W = w')
    (ha : 0 ≤ a) (hb : 0 ≤ b) (hc : 0 ≤ c) (hx : bits .and .i64 (a / 2) 3 = x) (hy : bits .and .i64 (b / 2) 3 = y) (hz : bits .and .i64 (c / 2) 3 = z) :
    Calls Tryd.prog 95 #[.int .i64 a, .int .i64 b, .int .i64 c] w fun r w' => r = .returned (.tuple #[.int .i64 0, .int .i64 3, .int .i64 7]) ∧ w = w' := by
  have o1 : bits .or .i64 4 2 = 6 := by decide
  have o2 : bits .or .i64 6 1 = 7 := by decide
  go_enter Tryd.func95, Tryd.ntmps95
  go_wp2_with (go_at_call 96; first
    | (refine (ga _).mono ?_; rintro r w1 ⟨rfl, rfl⟩; clear ga)
    | (refine (gb _).mono ?_; rintro r w1 ⟨rfl, rfl⟩; clear gb)
    | (refine (gc _).mono ?_; rintro r w1 ⟨rfl, rfl⟩; clear gc))
  exact bodyPost_ret (by simp only [results, Tryd.results95]; go_simp) rfl ⟨rfl, rfl⟩
/-- what two great digits or all of them mean -/
def mgT (p s : Int) : Int × Int × Int := if s = 2 then (p * 2, 8, 8) else if s = 1 then (8, p * 2, 8) else if s = 0 then (8, 8, p * 2) else (8, 8, 8)
set_option maxHeartbeats 1000000 in
theorem mgr_v (p s : Int) (w : World) (hp : 0 ≤ p ∧ p < 4) (hs : 0 ≤ s ∧ s < 4) :
    Calls Tryd.prog 94 #[.int .i64 p, .int .i64 s] w fun r w' => r = .returned (.tuple #[.int .i64 (mgT p s).1, .int .i64 (mgT p s).2.1, .int .i64 (mgT p s).2.2]) ∧ w = w' := by
  obtain rfl | rfl | rfl | rfl : s = 0 ∨ s = 1 ∨ s = 2 ∨ s = 3 := by omega
  all_goals (
    go_enter Tryd.func94, Tryd.ntmps94
    go_wp2
    exact bodyPost_ret (by simp only [results, Tryd.results94]; go_simp; first | done | exact ⟨rfl, rfl, rfl⟩) rfl ⟨rfl, rfl⟩)
/-- the digits that fields mean, without their lowest bits -/
def evT (p s v : Int) : Int × Int × Int := if v = 4 then (p * 2, s * 2, 8) else if v = 5 then (p * 2, 8, s * 2) else if v = 6 then (8, s * 2, p * 2) else if v = 7 then mgT p s else (p * 2, s * 2, v * 2)
set_option maxHeartbeats 1000000 in
theorem ev_7 (p s x y z : Int) (w : World)
    (cm : ∀ W, Calls Tryd.prog 94 #[.int .i64 p, .int .i64 s] W fun r w' => r = .returned (.tuple #[.int .i64 x, .int .i64 y, .int .i64 z]) ∧ W = w') :
    Calls Tryd.prog 91 #[.int .i64 p, .int .i64 s, .int .i64 7] w fun r w' => r = .returned (.tuple #[.int .i64 x, .int .i64 y, .int .i64 z]) ∧ w = w' := by
  go_enter Tryd.func91, Tryd.ntmps91
  go_wp2_with (go_at_call 94; refine (cm _).mono ?_; rintro r w1 ⟨rfl, rfl⟩)
  exact bodyPost_ret (by simp only [results, Tryd.results91]; go_simp; first | done | exact ⟨rfl, rfl, rfl⟩) rfl ⟨rfl, rfl⟩
set_option maxHeartbeats 1000000 in
theorem evens_v (p s v : Int) (w : World) (hp : 0 ≤ p ∧ p < 4) (hs : 0 ≤ s ∧ s < 4) (hv : 0 ≤ v ∧ v < 8) :
    Calls Tryd.prog 91 #[.int .i64 p, .int .i64 s, .int .i64 v] w fun r w' => r = .returned (.tuple #[.int .i64 (evT p s v).1, .int .i64 (evT p s v).2.1, .int .i64 (evT p s v).2.2]) ∧ w = w' := by
  by_cases h7 : v = 7
  · subst h7
    exact ev_7 p s _ _ _ w (fun W => mgr_v p s W hp hs)
  by_cases h4 : v = 4
  · subst h4
    go_enter Tryd.func91, Tryd.ntmps91
    go_wp2
    exact bodyPost_ret (by simp only [results, Tryd.results91]; go_simp; first | done | exact ⟨rfl, rfl, rfl⟩) rfl ⟨rfl, rfl⟩
  by_cases h5 : v = 5
  · subst h5
    go_enter Tryd.func91, Tryd.ntmps91
    go_wp2
    exact bodyPost_ret (by simp only [results, Tryd.results91]; go_simp; first | done | exact ⟨rfl, rfl, rfl⟩) rfl ⟨rfl, rfl⟩
  by_cases h6 : v = 6
  · subst h6
    go_enter Tryd.func91, Tryd.ntmps91
    go_wp2
    exact bodyPost_ret (by simp only [results, Tryd.results91]; go_simp; first | done | exact ⟨rfl, rfl, rfl⟩) rfl ⟨rfl, rfl⟩
  have e : evT p s v = (p * 2, s * 2, v * 2) := by
    unfold evT
    rw [if_neg h4, if_neg h5, if_neg h6, if_neg h7]
  rw [e]
  have b4 : (v == 4) = false := by simp [h4]
  have b5 : (v == 5) = false := by simp [h5]
  have b6 : (v == 6) = false := by simp [h6]
  have b7 : (v == 7) = false := by simp [h7]
  go_enter Tryd.func91, Tryd.ntmps91
  go_wp2
  exact bodyPost_ret (by simp only [results, Tryd.results91]; go_simp; first | done | exact ⟨rfl, rfl, rfl⟩) rfl ⟨rfl, rfl⟩
end Go.Proofs.YtjjaamdgochilaaDoor

namespace Go.Proofs.YtjjaamdgochilaaDoor
open Go.RowKit

/-- a declet's fields, by its digits -/
def fdT (a b c : Int) : Int × Int × Int :=
  if a / 8 = 0 then
    if b / 8 = 0 then (if c / 8 = 0 then (bits .and .i64 (a / 2) 3, bits .and .i64 (b / 2) 3, bits .and .i64 (c / 2) 3) else (bits .and .i64 (a / 2) 3, bits .and .i64 (b / 2) 3, 4))
    else (if c / 8 = 0 then (bits .and .i64 (a / 2) 3, bits .and .i64 (c / 2) 3, 5) else (bits .and .i64 (a / 2) 3, 2, 7))
  else
    if b / 8 = 0 then (if c / 8 = 0 then (bits .and .i64 (c / 2) 3, bits .and .i64 (b / 2) 3, 6) else (bits .and .i64 (b / 2) 3, 1, 7))
    else (if c / 8 = 0 then (bits .and .i64 (c / 2) 3, 0, 7) else (0, 3, 7))
theorem fields_v (a b c : Int) (w : World) (ha : 0 ≤ a ∧ a ≤ 9) (hb : 0 ≤ b ∧ b ≤ 9) (hc : 0 ≤ c ∧ c ≤ 9) :
    Calls Tryd.prog 95 #[.int .i64 a, .int .i64 b, .int .i64 c] w fun r w' => r = .returned (.tuple #[.int .i64 (fdT a b c).1, .int .i64 (fdT a b c).2.1, .int .i64 (fdT a b c).2.2]) ∧ w = w' := by
  unfold fdT
  by_cases h1 : a / 8 = 0
  · rw [if_pos h1]
    by_cases h2 : b / 8 = 0
    · rw [if_pos h2]
      by_cases h3 : c / 8 = 0
      · rw [if_pos h3]
        exact fields_0 a b c _ _ _ w (fun W => great_v a 0 ha.1 h1 W) (fun W => great_v b 0 hb.1 h2 W) (fun W => great_v c 0 hc.1 h3 W) ha.1 hb.1 hc.1 rfl rfl rfl
      · rw [if_neg h3]
        exact fields_1 a b c _ _ _ w (fun W => great_v a 0 ha.1 h1 W) (fun W => great_v b 0 hb.1 h2 W) (fun W => great_v c 1 hc.1 (by omega) W) ha.1 hb.1 hc.1 rfl rfl rfl
    · rw [if_neg h2]
      by_cases h3 : c / 8 = 0
      · rw [if_pos h3]
        exact fields_2 a b c _ _ _ w (fun W => great_v a 0 ha.1 h1 W) (fun W => great_v b 1 hb.1 (by omega) W) (fun W => great_v c 0 hc.1 h3 W) ha.1 hb.1 hc.1 rfl rfl rfl
      · rw [if_neg h3]
        exact fields_3 a b c _ _ _ w (fun W => great_v a 0 ha.1 h1 W) (fun W => great_v b 1 hb.1 (by omega) W) (fun W => great_v c 1 hc.1 (by omega) W) ha.1 hb.1 hc.1 rfl rfl rfl
  · rw [if_neg h1]
    by_cases h2 : b / 8 = 0
    · rw [if_pos h2]
      by_cases h3 : c / 8 = 0
      · rw [if_pos h3]
        exact fields_4 a b c _ _ _ w (fun W => great_v a 1 ha.1 (by omega) W) (fun W => great_v b 0 hb.1 h2 W) (fun W => great_v c 0 hc.1 h3 W) ha.1 hb.1 hc.1 rfl rfl rfl
      · rw [if_neg h3]
        exact fields_5 a b c _ _ _ w (fun W => great_v a 1 ha.1 (by omega) W) (fun W => great_v b 0 hb.1 h2 W) (fun W => great_v c 1 hc.1 (by omega) W) ha.1 hb.1 hc.1 rfl rfl rfl
    · rw [if_neg h2]
      by_cases h3 : c / 8 = 0
      · rw [if_pos h3]
        exact fields_6 a b c _ _ _ w (fun W => great_v a 1 ha.1 (by omega) W) (fun W => great_v b 1 hb.1 (by omega) W) (fun W => great_v c 0 hc.1 h3 W) ha.1 hb.1 hc.1 rfl rfl rfl
      · rw [if_neg h3]
        exact fields_7 a b c _ _ _ w (fun W => great_v a 1 ha.1 (by omega) W) (fun W => great_v b 1 hb.1 (by omega) W) (fun W => great_v c 1 hc.1 (by omega) W) ha.1 hb.1 hc.1 rfl rfl rfl
/-- bits side by side: a declet -/
def dcT (a b c : Int) : Int := bits .or .i64 (bits .or .i64 (bits .or .i64 (bits .or .i64 (bits .or .i64 ((fdT a b c).1 * 256) (bits .and .i64 a 1 * 128)) ((fdT a b c).2.1 * 32)) (bits .and .i64 b 1 * 16)) ((fdT a b c).2.2 * 2)) (bits .and .i64 c 1)
theorem dc_all (n : Nat) (hn : n < 1000) : dcT ((n : Int) / 100) ((n : Int) / 10 % 10) ((n : Int) % 10) = (dlE n : Int) ∧ (0 ≤ (fdT ((n : Int) / 100) ((n : Int) / 10 % 10) ((n : Int) % 10)).1 ∧ (fdT ((n : Int) / 100) ((n : Int) / 10 % 10) ((n : Int) % 10)).1 < 4) ∧ (0 ≤ (fdT ((n : Int) / 100) ((n : Int) / 10 % 10) ((n : Int) % 10)).2.1 ∧ (fdT ((n : Int) / 100) ((n : Int) / 10 % 10) ((n : Int) % 10)).2.1 < 4) ∧ (0 ≤ (fdT ((n : Int) / 100) ((n : Int) / 10 % 10) ((n : Int) % 10)).2.2 ∧ (fdT ((n : Int) / 100) ((n : Int) / 10 % 10) ((n : Int) % 10)).2.2 < 8) := by
  have h := upTo_all (f := fun n => decide (dcT ((n : Int) / 100) ((n : Int) / 10 % 10) ((n : Int) % 10) = (dlE n : Int) ∧ (0 ≤ (fdT ((n : Int) / 100) ((n : Int) / 10 % 10) ((n : Int) % 10)).1 ∧ (fdT ((n : Int) / 100) ((n : Int) / 10 % 10) ((n : Int) % 10)).1 < 4) ∧ (0 ≤ (fdT ((n : Int) / 100) ((n : Int) / 10 % 10) ((n : Int) % 10)).2.1 ∧ (fdT ((n : Int) / 100) ((n : Int) / 10 % 10) ((n : Int) % 10)).2.1 < 4) ∧ (0 ≤ (fdT ((n : Int) / 100) ((n : Int) / 10 % 10) ((n : Int) % 10)).2.2 ∧ (fdT ((n : Int) / 100) ((n : Int) / 10 % 10) ((n : Int) % 10)).2.2 < 8))) (m := 1000) (by decide +kernel) n hn
  exact of_decide_eq_true h
theorem and_low (n : Nat) (hn : n < 1024) : bits .and .i64 (n : Int) 1 = ((n % 2 : Nat) : Int) := by
  have h := upTo_all (f := fun n => decide (bits .and .i64 (n : Int) 1 = ((n % 2 : Nat) : Int))) (m := 1024) (by decide +kernel) n hn
  exact of_decide_eq_true h
section
variable (n a b c P S V x y z R : Int) (w : World) (h0 : ¬ n < 0) (h9 : ¬ 1000 ≤ n) (ea : n / 100 = a) (eb : n / 10 % 10 = b) (ec : n % 10 = c)
  (cf : ∀ W, Calls Tryd.prog 95 #[.int .i64 a, .int .i64 b, .int .i64 c] W fun r w' => r = .returned (.tuple #[.int .i64 P, .int .i64 S, .int .i64 V]) ∧ W = w')
  (hP0 : 0 ≤ P) (hP1 : P < 4) (hS0 : 0 ≤ S) (hS1 : S < 4) (hV0 : 0 ≤ V) (hV1 : V < 8)
  (hx : bits .and .i64 a 1 = x) (hy : bits .and .i64 b 1 = y) (hz : bits .and .i64 c 1 = z) (hx0 : 0 ≤ x) (hx1 : x < 2) (hy0 : 0 ≤ y) (hy1 : y < 2)
  (hR : bits .or .i64 (bits .or .i64 (bits .or .i64 (bits .or .i64 (bits .or .i64 (P * 256) (x * 128)) (S * 32)) (y * 16)) (V * 2)) z = R)
include h0 h9 ea eb ec cf hP0 hP1 hS0 hS1 hV0 hV1 hx hy hz hx0 hx1 hy0 hy1 hR
set_option maxHeartbeats 1000000 in
theorem denc_w : Calls Tryd.prog 93 #[.int .i64 n] w fun r w' => r = .returned (.tuple #[.int .i64 R, .int .i64 0]) ∧ w = w' := by
  go_enter Tryd.func93, Tryd.ntmps93
  go_wp2_with (go_at_call 95; refine (cf _).mono ?_; rintro r w1 ⟨rfl, rfl⟩)
  exact bodyPost_ret (by simp only [results, Tryd.results93]; go_simp) rfl ⟨rfl, rfl⟩
end
theorem denc_v (n : Nat) (hn : n < 1000) (w : World) : Calls Tryd.prog 93 #[.int .i64 (n : Int)] w fun r w' => r = .returned (.tuple #[.int .i64 (dlE n : Int), .int .i64 0]) ∧ w = w' := by
  obtain ⟨hR, ⟨p0, p1⟩, ⟨s0, s1⟩, ⟨v0, v1⟩⟩ := dc_all n hn
  unfold dcT at hR
  have la := and_low (n / 100) (by omega)
  have lb := and_low (n / 10 % 10) (by omega)
  rw [show ((n / 100 : Nat) : Int) = (n : Int) / 100 by omega] at la
  rw [show ((n / 10 % 10 : Nat) : Int) = (n : Int) / 10 % 10 by omega] at lb
  exact denc_w (n : Int) _ _ _ _ _ _ _ _ _ _ w (by omega) (by omega) rfl rfl rfl (fun W => fields_v _ _ _ W (by omega) (by omega) (by omega)) p0 p1 s0 s1 v0 v1 rfl rfl rfl (by rw [la]; omega) (by rw [la]; omega) (by rw [lb]; omega) (by rw [lb]; omega) hR
/-- what a declet means, as the code reckons it -/
def dmT (d : Nat) : Int := 100 * bits .or .i64 (evT ((d : Int) / 256) (bits .and .i64 ((d : Int) / 32) 3) (bits .and .i64 ((d : Int) / 2) 7)).1 (bits .and .i64 ((d : Int) / 128) 1) + 10 * bits .or .i64 (evT ((d : Int) / 256) (bits .and .i64 ((d : Int) / 32) 3) (bits .and .i64 ((d : Int) / 2) 7)).2.1 (bits .and .i64 ((d : Int) / 16) 1) + bits .or .i64 (evT ((d : Int) / 256) (bits .and .i64 ((d : Int) / 32) 3) (bits .and .i64 ((d : Int) / 2) 7)).2.2 (bits .and .i64 (d : Int) 1)
theorem dm_all (d : Nat) (hd : d < 1024) : dmT d = (dlD d : Int) ∧ (0 ≤ bits .and .i64 ((d : Int) / 32) 3 ∧ bits .and .i64 ((d : Int) / 32) 3 < 4) ∧ (0 ≤ bits .and .i64 ((d : Int) / 2) 7 ∧ bits .and .i64 ((d : Int) / 2) 7 < 8) ∧ (0 ≤ bits .or .i64 (evT ((d : Int) / 256) (bits .and .i64 ((d : Int) / 32) 3) (bits .and .i64 ((d : Int) / 2) 7)).1 (bits .and .i64 ((d : Int) / 128) 1) ∧ bits .or .i64 (evT ((d : Int) / 256) (bits .and .i64 ((d : Int) / 32) 3) (bits .and .i64 ((d : Int) / 2) 7)).1 (bits .and .i64 ((d : Int) / 128) 1) ≤ 9) ∧ (0 ≤ bits .or .i64 (evT ((d : Int) / 256) (bits .and .i64 ((d : Int) / 32) 3) (bits .and .i64 ((d : Int) / 2) 7)).2.1 (bits .and .i64 ((d : Int) / 16) 1) ∧ bits .or .i64 (evT ((d : Int) / 256) (bits .and .i64 ((d : Int) / 32) 3) (bits .and .i64 ((d : Int) / 2) 7)).2.1 (bits .and .i64 ((d : Int) / 16) 1) ≤ 9) ∧ (0 ≤ bits .or .i64 (evT ((d : Int) / 256) (bits .and .i64 ((d : Int) / 32) 3) (bits .and .i64 ((d : Int) / 2) 7)).2.2 (bits .and .i64 (d : Int) 1) ∧ bits .or .i64 (evT ((d : Int) / 256) (bits .and .i64 ((d : Int) / 32) 3) (bits .and .i64 ((d : Int) / 2) 7)).2.2 (bits .and .i64 (d : Int) 1) ≤ 9) := by
  have h := upTo_all (f := fun d => decide (dmT d = (dlD d : Int) ∧ (0 ≤ bits .and .i64 ((d : Int) / 32) 3 ∧ bits .and .i64 ((d : Int) / 32) 3 < 4) ∧ (0 ≤ bits .and .i64 ((d : Int) / 2) 7 ∧ bits .and .i64 ((d : Int) / 2) 7 < 8) ∧ (0 ≤ bits .or .i64 (evT ((d : Int) / 256) (bits .and .i64 ((d : Int) / 32) 3) (bits .and .i64 ((d : Int) / 2) 7)).1 (bits .and .i64 ((d : Int) / 128) 1) ∧ bits .or .i64 (evT ((d : Int) / 256) (bits .and .i64 ((d : Int) / 32) 3) (bits .and .i64 ((d : Int) / 2) 7)).1 (bits .and .i64 ((d : Int) / 128) 1) ≤ 9) ∧ (0 ≤ bits .or .i64 (evT ((d : Int) / 256) (bits .and .i64 ((d : Int) / 32) 3) (bits .and .i64 ((d : Int) / 2) 7)).2.1 (bits .and .i64 ((d : Int) / 16) 1) ∧ bits .or .i64 (evT ((d : Int) / 256) (bits .and .i64 ((d : Int) / 32) 3) (bits .and .i64 ((d : Int) / 2) 7)).2.1 (bits .and .i64 ((d : Int) / 16) 1) ≤ 9) ∧ (0 ≤ bits .or .i64 (evT ((d : Int) / 256) (bits .and .i64 ((d : Int) / 32) 3) (bits .and .i64 ((d : Int) / 2) 7)).2.2 (bits .and .i64 (d : Int) 1) ∧ bits .or .i64 (evT ((d : Int) / 256) (bits .and .i64 ((d : Int) / 32) 3) (bits .and .i64 ((d : Int) / 2) 7)).2.2 (bits .and .i64 (d : Int) 1) ≤ 9))) (m := 1024) (by decide +kernel) d hd
  exact of_decide_eq_true h
section
variable (d s v x y z xa ya za X Y Z R : Int) (w : World) (h0 : ¬ d < 0) (h0' : 0 ≤ d) (h9 : ¬ 1024 ≤ d) (hs : bits .and .i64 (d / 32) 3 = s) (hv : bits .and .i64 (d / 2) 7 = v)
  (cf : ∀ W, Calls Tryd.prog 91 #[.int .i64 (d / 256), .int .i64 s, .int .i64 v] W fun r w' => r = .returned (.tuple #[.int .i64 x, .int .i64 y, .int .i64 z]) ∧ W = w')
  (ha : bits .and .i64 (d / 128) 1 = xa) (hb : bits .and .i64 (d / 16) 1 = ya) (hc : bits .and .i64 d 1 = za)
  (hx : bits .or .i64 x xa = X) (hy : bits .or .i64 y ya = Y) (hz : bits .or .i64 z za = Z) (hX0 : 0 ≤ X) (hX1 : X ≤ 9) (hY0 : 0 ≤ Y) (hY1 : Y ≤ 9) (hZ0 : 0 ≤ Z) (hZ1 : Z ≤ 9)
  (hR : 100 * X + 10 * Y + Z = R)
include h0 h0' h9 hs hv cf ha hb hc hx hy hz hX0 hX1 hY0 hY1 hZ0 hZ1 hR
set_option maxHeartbeats 1000000 in
theorem ddcd_w : Calls Tryd.prog 88 #[.int .i64 d] w fun r w' => r = .returned (.tuple #[.int .i64 R, .int .i64 0]) ∧ w = w' := by
  go_enter Tryd.func88, Tryd.ntmps88
  go_wp2_with (go_at_call 91; refine (cf _).mono ?_; rintro r w1 ⟨rfl, rfl⟩)
  exact bodyPost_ret (by simp only [results, Tryd.results88]; go_simp) rfl ⟨rfl, rfl⟩
end
theorem ddcd_v (d : Nat) (hd : d < 1024) (w : World) : Calls Tryd.prog 88 #[.int .i64 (d : Int)] w fun r w' => r = .returned (.tuple #[.int .i64 (dlD d : Int), .int .i64 0]) ∧ w = w' := by
  obtain ⟨hR, hs, hv, ⟨x0, x1⟩, ⟨y0, y1⟩, ⟨z0, z1⟩⟩ := dm_all d hd
  exact ddcd_w (d : Int) _ _ _ _ _ _ _ _ _ _ _ _ w (by omega) (by omega) (by omega) rfl rfl (fun W => evens_v _ _ _ W (by omega) hs hv) rfl rfl rfl rfl rfl rfl x0 x1 y0 y1 z0 z1 hR
end Go.Proofs.YtjjaamdgochilaaDoor
