/-
  What the texts below lack: Num, Radd, Left, Right, Tim, Dvs, Nsb, Nln, Muls, Npw, Mt, Rf, Rg, Ta, Tb, Te, Rat, Rrd, Ord, Oa, Ru, Rw, Sf8, Sm9, Rv, Xd, Xf, Rsm, Rdc, Xn, Ss9, Sq9, St9, Sw9.
-/
import Derived.Test.YtckkibmehjlgaaaGreatDoorL1
import Derived.Deep.AppendLies
import Derived.Deep.RegionHeld3
import Derived.BigRegion
import Derived.Deep.DrawnRows
import Derived.Test.YtckkibmehjlgaaaGreatDoorL2
import Derived.Test.YtckkibmehjlgaaaGreatDoorL4
import Derived.ChangeKeysEq
import Derived.Test.YtckkibmehjlgaaaGreatDoorL5
import Derived.Test.YtckkibmehjlgaaaGreatDoorL7
import Derived.Test.YtckkibmehjlgaaaGreatDoorL6
import Derived.Test.YtckkibmehjlgaaaGreatDoorL8
import Derived.Test.YtckkibmehjlgaaaGreatDoorL15
import Derived.Test.YtckkibmehjlgaaaGreatDoorL9
import Derived.Test.YtckkibmehjlgaaaGreatDoorL12
import Derived.Test.YtckkibmehjlgaaaGreatDoorL17
import Derived.Test.YtckkibmehjlgaaaGreatDoorL13
import Derived.Test.YtckkibmehjlgaaaGreatDoorL19
import Derived.StillTail
import Derived.Below
import Derived.WalkKit
import Derived.Test.YtckkibmehjlgaaaGreatDoorL25
import Derived.Test.YtckkibmehjlgaaaGreatDoorL26
import Derived.Test.YtckkibmehjlgaaaGreatDoorL30
import Derived.Test.YtckkibmehjlgaaaGreatDoorL14
import Derived.Test.YtckkibmehjlgaaaGreatDoorL24
import Derived.Test.YtckkibmehjlgaaaGreatDoorL31
import Derived.Test.YtckkibmehjlgaaaGreatDoorL29
import Derived.Test.YtckkibmehjlgaaaGreatDoorL32
import Derived.Test.YtckkibmehjlgaaaGreatDoorL33
set_option linter.unusedVariables false
set_option linter.unusedSimpArgs false
set_option maxRecDepth 20000
set_option linter.unusedSectionVars false
namespace Go.Proofs.YtckkibmehjlgaaaGreatDoor
open Go.RowKit

set_option maxHeartbeats 400000 in
theorem word_any (a : Option Addr) (n c i : Nat) (x : Nat → Int) (w : World) (h : Num w a n c x) :
    Calls Tryz.prog 51 #[.slice a n c, .int .i64 i] w fun e w' => e = .returned (.int .u64 (x i)) ∧ w' = w := by
  obtain ⟨h1, h2, h3, h4, h5⟩ := h
  by_cases hi : i < n
  · rcases h5 with ⟨rfl, rfl⟩ | ⟨b, off, rfl, hbs, hc⟩
    · omega
    · have hci := hc i hi
      have hi' : (i : Int) < n := by omega
      clear hc h4 h3
      go_enter Tryz.func51, Tryz.ntmps51
      go_wp2
      go_ret
      exact ⟨rfl, rfl⟩
  · have hz := h4 i (by omega)
    have HZ : Hid (x i = 0) := hz
    clear hz h4 h3 h5
    go_enter Tryz.func51, Tryz.ntmps51
    go_wp2
    go_ret
    exact ⟨ret_int HZ.out.symm, rfl⟩

set_option maxHeartbeats 1000000 in
theorem trim_some (b off n c : Nat) (x : Nat → Int) (w : World) (hn : n < 4294967296) (h : Num w (some ⟨b, off, none⟩) n c x) :
    Calls Tryz.prog 49 #[.slice (some ⟨b, off, none⟩) n c] w fun e w' => ∃ g cap, e = .returned (.slice (some ⟨g, 0, none⟩) (sizeL x n) cap) ∧ Num w' (some ⟨g, 0, none⟩) (sizeL x n) cap x ∧ Below w.heap.size w w' := by
  obtain ⟨h1, h2, h3, h4, h5⟩ := h
  have hc : b < w.heap.size ∧ ∀ i, i < n → w.cell? ⟨b, off + i, none⟩ = some (.int .u64 (x i)) := by
    rcases h5 with ⟨h, _⟩ | ⟨b', off', h, hbs, hc⟩
    · cases h
    · cases h; exact ⟨hbs, hc⟩
  obtain ⟨hbs, hc⟩ := hc
  clear h5
  obtain ⟨i0, hi, hz0, hz1, hz2⟩ := info_parts Tryz.info22
  unfold maxLen at h2
  go_enter Tryz.func49, Tryz.ntmps49
  go_wp2
  go_loop [3] (fun t => ∃ k : Nat, k ≤ n ∧ sizeL x k = sizeL x n ∧ (∀ i, k ≤ i → x i = 0) ∧ t = .int .i64 k) (fun t => (intOf t).toNat)
  case atStart => exact ⟨n, Nat.le_refl _, rfl, h4, rfl⟩
  case round =>
    obtain ⟨k, hk, hs, hz, rfl⟩ := hrel
    clear h4
    by_cases h0 : k = 0
    · subst h0
      have HS : Hid (sizeL x n = 0) := hs.symm
      have HN : Hid (Num (w.alloc (.cells #[] 22)) (some ⟨w.heap.size, 0, none⟩) 0 0 x) := ⟨Nat.le_refl _, by unfold maxLen; omega, h3, hz, Or.inr ⟨w.heap.size, 0, rfl, by simp, fun i hi => by omega⟩⟩
      clear hs hz hc h3
      go_wp2
      go_ret
      refine ⟨w.heap.size, 0, ?_, ?_, (Below.refl _ _).alloc (Nat.le_refl _) _⟩
      · rw [HS.out]; rfl
      · rw [HS.out]; exact HN.out
    · obtain ⟨j, rfl⟩ : ∃ j, k = j + 1 := ⟨k - 1, by omega⟩
      have hcj := hc j (by omega)
      by_cases hzj : x j = 0
      · have HS : Hid (sizeL x j = sizeL x n) := by
          have : sizeL x (j + 1) = sizeL x j := by simp [sizeL, hzj]
          exact this.symm.trans hs
        have HZ : Hid (∀ i, j ≤ i → x i = 0) := fun i hji => by
          by_cases e : i = j
          · rw [e]; exact hzj
          · exact hz i (by omega)
        clear hs hz hc
        go_wp2
        go_round
        case rel => exact ⟨j, by omega, HS.out, HZ.out, by go_num⟩
        case measure => simp [intOf]
      · have HS : Hid (sizeL x n = j + 1) := by
          have : sizeL x (j + 1) = j + 1 := by simp [sizeL, hzj]
          exact hs.symm.trans this
        have HZ : Hid (∀ i, j + 1 ≤ i → x i = 0) := hz
        have HC : Hid (∀ i, i < n → w.cell? ⟨b, off + i, none⟩ = some (.int .u64 (x i))) := hc
        clear hs hz hc
        have HOWN : (w.alloc (.cells #[] 22)).ownsRow w.heap.size 22 1 (.slice (some ⟨w.heap.size, 0, none⟩) 0 0) 0 [] :=
          ⟨rfl, Or.inr ⟨w.heap.size, 0, #[], rfl, Nat.le_refl _, (MapKept.heap_alloc w _).1, Nat.le_refl _, by unfold maxLen; omega, rfl, rfl⟩⟩
        have HNEWS : ∀ (q : Nat) (u : Value), ((List.range (j + 1)).map fun i => Value.int .u64 (x i))[q]? = some u → (w.alloc (.cells #[] 22)).cell? ((⟨b, off, none⟩ : Addr).add q) = some u := by
          intro q u hq
          have hql : q < j + 1 := by
            rcases Nat.lt_or_ge q (j + 1) with h | h
            · exact h
            · rw [List.getElem?_eq_none (by simpa using h)] at hq; cases hq
          have e2 : u = .int .u64 (x q) := by simpa [hql] using hq.symm
          rw [e2]
          have ea : (⟨b, off, none⟩ : Addr).add q = ⟨b, off + q, none⟩ := by simp [Addr.add]
          rw [ea]
          exact (((Below.refl w.heap.size w).alloc (Nat.le_refl _) _).cell (p := ⟨b, off + q, none⟩) hbs).trans (HC.out q (by omega))
        have HONE : ∀ u ∈ ((List.range (j + 1)).map fun i => Value.int .u64 (x i)), u.oneCell' = true := by
          intro u hu
          obtain ⟨q, _, rfl⟩ := List.mem_map.1 hu
          rfl
        go_wp2_with (at_builtin; refine wpList_append_lies _ rfl (.tmp 18) (.tmp 21) 39 rfl w.heap.size 22 i0 (.int .u64 0) 1 8 Tryz.underlying39 hi hz0 hz1 hz2 rfl (by decide) (.slice (some ⟨w.heap.size, 0, none⟩) 0 0) 0 [] rfl HOWN ⟨b, off, none⟩ (j + 1) c ((List.range (j + 1)).map fun i => Value.int .u64 (x i)) rfl (by simp) HNEWS HONE (by omega) (by unfold maxLen; omega) (by omega) (by simp) (w.heap.size + 1) (by simp) ?_; intro g cap w1 hown hgrow hat hlt; clear HOWN HNEWS HONE)
        have hown' : w1.ownsRow w.heap.size 22 1 (.slice (some ⟨g, 0, none⟩) (j + 1) cap) (j + 1) ((List.range (j + 1)).map fun i => Value.int .u64 (x i)) := by
          have e0 : 0 + (j + 1) = j + 1 := by omega
          rw [e0] at hown
          simpa using hown
        have HN := num_of_owns (w := w) h3 HZ.out hown' hlt
        have HB : Below w.heap.size w w1 := ((Below.refl _ _).alloc (Nat.le_refl _) _).grown hgrow (by simp) (by intro k hk; cases hk; exact Nat.le_refl _)
        clear hown hown' hgrow
        go_wp2
        go_ret
        refine ⟨g, cap, ?_, ?_, HB⟩
        · rw [HS.out]; simp
        · rw [HS.out]; exact HN

set_option maxHeartbeats 400000 in
theorem trim_nil (x : Nat → Int) (w : World) (hx : ∀ i, x i = 0) :
    Calls Tryz.prog 49 #[.slice none 0 0] w fun e w' => ∃ g cap, e = .returned (.slice (some ⟨g, 0, none⟩) 0 cap) ∧ Num w' (some ⟨g, 0, none⟩) 0 cap x ∧ Below w.heap.size w w' := by
  go_enter Tryz.func49, Tryz.ntmps49
  go_wp2
  go_loop [3] (fun t => t = .int .i64 0) (fun t => (intOf t).toNat)
  case atStart => rfl
  case round =>
    subst hrel
    go_wp2
    go_ret
    refine ⟨w.heap.size, 0, rfl, ?_, (Below.refl _ _).alloc (Nat.le_refl _) _⟩
    exact ⟨Nat.le_refl _, by unfold maxLen; omega, fun i => by rw [hx i]; decide, fun i _ => hx i, Or.inr ⟨w.heap.size, 0, rfl, by simp, fun i hi => by omega⟩⟩
theorem trim_any (a : Option Addr) (n c : Nat) (x : Nat → Int) (w : World) (hn : n < 4294967296) (h : Num w a n c x) :
    Calls Tryz.prog 49 #[.slice a n c] w fun e w' => ∃ g cap, e = .returned (.slice (some ⟨g, 0, none⟩) (sizeL x n) cap) ∧ Num w' (some ⟨g, 0, none⟩) (sizeL x n) cap x ∧ Below w.heap.size w w' := by
  have h' := h
  obtain ⟨h1, h2, h3, h4, h5⟩ := h'
  rcases h5 with ⟨rfl, rfl⟩ | ⟨b, off, rfl, _, _⟩
  · obtain rfl : n = 0 := by omega
    exact trim_nil x w (fun i => h4 i (Nat.zero_le _))
  · exact trim_some b off n c x w hn h
end Go.Proofs.YtckkibmehjlgaaaGreatDoor

namespace Go.Proofs.YtckkibmehjlgaaaGreatDoor
open Go.RowKit

theorem sumW_zero {x y : Nat → Int} {n : Nat} (hx : Words x) (hy : Words y) (zx : ∀ i, n ≤ i → x i = 0) (zy : ∀ i, n ≤ i → y i = 0) : ∀ i, n + 1 ≤ i → sumW x y i = 0 := by
  have hc : ∀ j, n + 1 ≤ j → carryW x y j = 0 := by
    intro j hj
    obtain ⟨q, rfl⟩ : ∃ q, j = q + 1 := ⟨j - 1, by omega⟩
    have := carryW_01 hx hy q
    simp only [carryW]; rw [zx q (by omega), zy q (by omega)]; omega
  intro i hi
  unfold sumW
  rw [zx i (by omega), zy i (by omega), hc i hi]; rfl
/-- the difference, cut at M words -/
def difZ (x y : Nat → Int) (M i : Nat) : Int := if i < M then difW x y i else 0
theorem difZ_words (x y : Nat → Int) (M : Nat) : Words (difZ x y M) := fun i => by unfold difZ; split; exact difW_words x y i; decide

set_option maxHeartbeats 1000000 in
theorem radd_any (a a' : Option Addr) (n c n' c' : Nat) (x y : Nat → Int) (w : World) (hn : n < 4294967290) (hn' : n' < 4294967290) (h : Num w a n c x) (h' : Num w a' n' c' y) :
    Calls Tryz.prog 18 #[.slice a n c, .slice a' n' c'] w fun e w' => ∃ g k cap, e = .returned (.slice (some ⟨g, 0, none⟩) k cap) ∧ k ≤ max n n' + 1 ∧ Num w' (some ⟨g, 0, none⟩) k cap (sumW x y) ∧ Below w.heap.size w w' := by
  have hx := h.2.2.1
  have hy := h'.2.2.1
  have zx := h.2.2.2.1
  have zy := h'.2.2.2.1
  obtain ⟨M, hM⟩ : ∃ M, max n n' + 1 = M := ⟨_, rfl⟩
  have hMi : max (n : Int) n' + 1 = (M : Int) := by omega
  have hMb : M < 4294967292 := by omega
  have hmk := fun w => make_any (max (n : Int) n' + 1) M hMi (by omega) w
  have hfin : ∀ (ss : Array Value), ss.size = M → (∀ j h, ss[j]'h = Value.int .u64 (sumW x y j)) → Num (w.alloc (.cells ss 22)) (some ⟨w.heap.size, 0, none⟩) M M (sumW x y) := fun ss h1 h2 => num_of_block (by omega) (sumW_words x y) (fun i hi => sumW_zero (n := max n n') hx hy (fun i hi => zx i (by omega)) (fun i hi => zy i (by omega)) i (by omega)) h1 (fun j hj => by rw [h2 j hj])
  have hw1 := fun (i : Nat) (ss : Array Value) => word_any a n c i x (w.alloc (.cells ss 22)) (h.next (below1 w _))
  have hw2 := fun (i : Nat) (ss : Array Value) => word_any a' n' c' i y (w.alloc (.cells ss 22)) (h'.next (below1 w _))
  have HM : Hid (max n n' + 1 = M) := hM
  have HZ : Hid ((arrOf (fun _ => 0) M).size = M ∧ ∀ j h, (arrOf (fun _ => 0) M)[j]'h = Value.int .u64 0) := ⟨arrOf_size _ _, fun j h => arrOf_get _ _ _ _⟩
  clear h h' zx zy hM hMi
  generalize arrOf (fun _ => 0) M = zz at *
  go_enter Tryz.func18, Tryz.ntmps18
  go_wp2
  go_loopw [6, 7, 17, 20] (fun c u7 i u20 wr => ∃ (k : Nat) (ss : Array Value), k ≤ M ∧ i = .int .i64 k ∧ c = .int .u64 (carryW x y k) ∧ ss.size = M ∧ (∀ j h, ss[j]'h = Value.int .u64 (if j < k then sumW x y j else 0)) ∧ wr = w.alloc (.cells ss 22)) (fun _ _ i _ _ => M - (intOf i).toNat)
  case atStart => exact ⟨0, zz, Nat.zero_le _, rfl, rfl, HZ.out.1, fun j h => by rw [HZ.out.2 j h]; simp, rfl⟩
  case round =>
    obtain ⟨k, ss, hk, rfl, rfl, hsz, hss, rfl⟩ := hrel
    have hcar := carryW_01 hx hy k
    by_cases h8 : k < M
    · have h8i : (k : Int) < M := by omega
      have h8s : k < ss.size := by omega
      have bx := hx k
      have b_y := hy k
      have hsk : ss[k]? = some (.int .u64 0) := by rw [Array.getElem?_eq_getElem h8s, hss k h8s, if_neg (by omega)]
      have hadd := fun w => add64 (x k) (y k) (carryW x y k) bx.1 b_y.1 hcar.1 hcar.2 w
      have hwa := hw1 k ss
      have hwb := hw2 k ss
      have HR : Hid (∀ (i : Nat) (h : i < (ss.setIfInBounds k (.int .u64 (sumW x y k))).size), (ss.setIfInBounds k (.int .u64 (sumW x y k)))[i]'h = Value.int .u64 (if i < k + 1 then sumW x y i else 0)) := set_next hss
      clear hss hw1 hw2 hfin hmk hx hy
      go_wp2_with (first | (go_at_call_of 51 (Value.slice a n c); refine hwa.mono ?_; rintro e w' ⟨rfl, rfl⟩) | (go_at_call_of 51 (Value.slice a' n' c'); refine hwb.mono ?_; rintro e w' ⟨rfl, rfl⟩))
      go_roundw
      case rel => exact ⟨k + 1, ss.setIfInBounds k (.int .u64 (sumW x y k)), by omega, by go_num, rfl, by simp [hsz], HR.out, rfl⟩
      case measure => simp [intOf]; omega
    · obtain rfl : k = M := by omega
      have hss' : ∀ j h, ss[j]'h = Value.int .u64 (sumW x y j) := by
        intro j h; rw [hss j h, if_pos (by omega)]
      have hT := trim_any _ _ _ _ _ (by omega) (hfin ss hsz hss')
      have hle := sizeL_le (sumW x y) k
      clear hss hss' hw1 hw2 hfin hmk hx hy
      go_wp2_with (go_at_call 49; refine hT.mono ?_; rintro e w1 ⟨g, cap, rfl, hN, hB⟩)
      go_ret
      exact ⟨g, _, cap, rfl, Nat.le_trans hle (Nat.le_of_eq HM.out.symm), hN, (below1 w _).trans (hB.mono (by simp))⟩

end Go.Proofs.YtckkibmehjlgaaaGreatDoor

namespace Go.Proofs.YtckkibmehjlgaaaGreatDoor
open Go.RowKit
attribute [local go_sem ↓] Go.wp_at_zero Go.wp_at_succ
attribute [local go_sem] setCell_drewN alloc_drewN

def stL (x : Nat → Int) (q r k j : Nat) : Int := if j < q + k then finL x q r j else if j = q + k then lowp x q r j else 0
theorem finL_zero {x : Nat → Int} {n : Nat} (hx : Words x) (zx : ∀ i, n ≤ i → x i = 0) (q r : Nat) (hr : r < 64) : ∀ j, n + q + 1 ≤ j → finL x q r j = 0 := by
  intro j hj
  unfold finL
  rw [if_pos (by omega), zx (j - q) (by omega)]
  have : lowp x q r j = 0 := by
    unfold lowp; split
    · rw [zx (j - q - 1) (by omega)]; simp
    · rfl
  rw [this, Int.zero_mul, wrap_id 0 (by decide), orW_zero 0 (by decide)]
theorem stL_end {x : Nat → Int} {n : Nat} (hx : Words x) (zx : ∀ i, n ≤ i → x i = 0) (q r j : Nat) (hj : j < n + q + 1) : stL x q r n j = finL x q r j := by
  unfold stL
  by_cases h : j < q + n
  · rw [if_pos h]
  · obtain rfl : j = q + n := by omega
    rw [if_neg h, if_pos rfl]
    unfold finL
    rw [if_pos (by omega), zx (q + n - q) (by omega), Int.zero_mul, wrap_id 0 (by decide), orW_zero _ (lowp_word hx q r _)]
theorem stL_step0 {x : Nat → Int} {q k : Nat} {ss : Array Value} (hss : ∀ j h, ss[j]'h = Value.int .u64 (stL x q 0 k j)) (j : Nat) (h : j < (ss.setIfInBounds (k + q) (.int .u64 (finL x q 0 (q + k)))).size) : (ss.setIfInBounds (k + q) (.int .u64 (finL x q 0 (q + k))))[j]'h = Value.int .u64 (stL x q 0 (k + 1) j) := by
  have h' : j < ss.size := by simpa using h
  rw [Array.getElem_setIfInBounds]
  by_cases e : k + q = j
  · subst e; rw [if_pos rfl]; unfold stL; rw [if_pos (by omega), Nat.add_comm]
  · rw [if_neg e, hss j h']
    unfold stL
    by_cases e2 : j < q + k
    · rw [if_pos e2, if_pos (by omega)]
    · rw [if_neg e2, if_neg (by omega), if_neg (by omega)]
      have : lowp x q 0 j = 0 := by unfold lowp; rw [if_neg (by omega)]
      rw [this]; split <;> rfl
  exact h'
theorem stL_step1 {x : Nat → Int} {q r k : Nat} (hr : 0 < r) {ss : Array Value} (hss : ∀ j h, ss[j]'h = Value.int .u64 (stL x q r k j)) (j : Nat) (h : j < ((ss.setIfInBounds (k + q) (.int .u64 (finL x q r (q + k)))).setIfInBounds (k + q + 1) (.int .u64 (x k / 2 ^ (64 - r)))).size) : ((ss.setIfInBounds (k + q) (.int .u64 (finL x q r (q + k)))).setIfInBounds (k + q + 1) (.int .u64 (x k / 2 ^ (64 - r))))[j]'h = Value.int .u64 (stL x q r (k + 1) j) := by
  have h' : j < ss.size := by simpa using h
  rw [Array.getElem_setIfInBounds (by simpa using h')]
  by_cases e0 : k + q + 1 = j
  · subst e0; rw [if_pos rfl]; unfold stL; rw [if_neg (by omega), if_pos (by omega)]; unfold lowp; rw [if_pos ⟨by omega, hr⟩, show k + q + 1 - q - 1 = k by omega]
  · rw [if_neg e0, Array.getElem_setIfInBounds h']
    by_cases e : k + q = j
    · subst e; rw [if_pos rfl]; unfold stL; rw [if_pos (by omega), Nat.add_comm]
    · rw [if_neg e, hss j h']
      unfold stL
      by_cases e2 : j < q + k
      · rw [if_pos e2, if_pos (by omega)]
      · rw [if_neg e2, if_neg (by omega), if_neg (by omega), if_neg (by omega)]

set_option maxHeartbeats 1000000 in
theorem left_z (b off n c q : Nat) (s : Int) (x : Nat → Int) (w : World) (hn : n < 4000000000) (hq0 : q < 100000)  (hq : s / 64 = q) (hr : s % 64 = 0) (hs : 0 ≤ s) (h : Num w (some ⟨b, off, none⟩) n c x) :
    Calls Tryz.prog 33 #[.slice (some ⟨b, off, none⟩) n c, .int .i64 s] w fun e w' => ∃ g k cap, e = .returned (.slice (some ⟨g, 0, none⟩) k cap) ∧ k ≤ n + q + 1 ∧ Num w' (some ⟨g, 0, none⟩) k cap (finL x q 0) ∧ Below w.heap.size w w' := by
  have hx := h.2.2.1
  have zx := h.2.2.2.1
  have hc : b < w.heap.size ∧ ∀ i, i < n → w.cell? ⟨b, off + i, none⟩ = some (.int .u64 (x i)) := by
    rcases h.2.2.2.2 with ⟨h, _⟩ | ⟨b', off', h, hbs, hc⟩
    · cases h
    · cases h; exact ⟨hbs, hc⟩
  obtain ⟨hbs, hc⟩ := hc
  have hcap := h.1
  have hs6 : s < 6400064 := by omega
  obtain ⟨M, hM⟩ : ∃ M, n + q + 1 = M := ⟨_, rfl⟩
  have hMi : (n : Int) + q + 1 = (M : Int) := by omega
  have hmk := fun w => make_any ((n : Int) + q + 1) M hMi (by omega) w
  have hfin : ∀ (ss : Array Value) (m : Nat), ss.size = M → (∀ j h, ss[j]'h = Value.int .u64 (stL x q 0 n j)) → Num ((w.alloc (.cells ss 22)).drewN m) (some ⟨w.heap.size, 0, none⟩) M M (finL x q 0) := fun ss m h1 h2 => (num_of_block (by omega) (finL_words hx q 0) (fun i hi => finL_zero hx zx q 0 (by omega) i (by omega)) h1 (fun j hj => by rw [h2 j hj, stL_end hx zx q 0 j (by omega)])).drewN m
  have HM : Hid (n + q + 1 = M) := hM
  have HZ : Hid ((arrOf (fun _ => 0) M).size = M ∧ ∀ j h, (arrOf (fun _ => 0) M)[j]'h = Value.int .u64 0) := ⟨arrOf_size _ _, fun j h => arrOf_get _ _ _ _⟩
  have hcw : ∀ (ss : Array Value) i, i < n → (w.alloc (.cells ss 22)).cell? ⟨b, off + i, none⟩ = some (.int .u64 (x i)) := fun ss i hi => ((below1 w _).cell (p := ⟨b, off + i, none⟩) hbs).trans (hc i hi)
  clear h zx hMi hc
  generalize arrOf (fun _ => 0) M = zz at *
  go_enter Tryz.func33, Tryz.ntmps33
  go_wp2
  go_loopw [6, 16] (fun u6 i wr => ∃ (k m : Nat) (ss : Array Value), k ≤ n ∧ i = .int .i64 k ∧ ss.size = M ∧ (∀ j h, ss[j]'h = Value.int .u64 (stL x q 0 k j)) ∧ wr = (w.alloc (.cells ss 22)).drewN m) (fun _ i _ => n - (intOf i).toNat)
  case atStart => exact ⟨0, 0, zz, Nat.zero_le _, rfl, HZ.out.1, fun j h => by rw [HZ.out.2 j h]; unfold stL; (by_cases e : j < q + 0); (rw [if_pos e]; unfold finL; rw [if_neg (by omega)]); (rw [if_neg e]; split; (unfold lowp; rw [if_neg (by omega)]); rfl), rfl⟩
  case round =>
    obtain ⟨k, m, ss, hk, rfl, hsz, hss, rfl⟩ := hrel
    by_cases h8 : k < n
    · have h8i : (k : Int) < n := by omega
      have h8s : k + q < ss.size := by omega
      have h8t : (k : Int) + q < M := by omega
      have h8u : (k : Int) + q + 1 < M := by omega
      have bx := hx k
      have hcx := hcw ss k h8
      have hsk : ss[k + q]? = some (.int .u64 (lowp x q 0 (q + k))) := by rw [Array.getElem?_eq_getElem h8s, hss _ h8s]; unfold stL; rw [if_neg (by omega), if_pos (by omega), Nat.add_comm]
      have hgo : ∀ h, ss[k + q]'h = .int .u64 (lowp x q 0 (q + k)) := fun h => by rw [hss _ h]; unfold stL; rw [if_neg (by omega), if_pos (by omega), Nat.add_comm]
      have hlow := lowp_word hx q 0 (q + k)
      have e1 : ((k : Int) + q).toNat = k + q := by omega
      have e2 : ((k : Int) + q + 1).toNat = k + q + 1 := by omega
      have HF : Hid (finL x q 0 (q + k) = bits BinOp.or IntKind.u64 (lowp x q 0 (q + k)) (x k)) := by
        show _ = _; unfold finL; rw [if_pos (by omega), show q + k - q = k by omega]; simp [orW, wrap_id _ bx]
      have HR : Hid (∀ (i : Nat) (h : i < (ss.setIfInBounds (k + q) (.int .u64 (finL x q 0 (q + k)))).size), (ss.setIfInBounds (k + q) (.int .u64 (finL x q 0 (q + k))))[i]'h = Value.int .u64 (stL x q 0 (k + 1) i)) := stL_step0 hss
      clear hss hfin hmk hx
      generalize hlo : lowp x q 0 (q + k) = lo at *
      clear hcw
      go_wp2
      go_region
      go_wp2
      go_roundw
      case rel => refine ⟨k + 1, m + 1, ss.setIfInBounds (k + q) (.int .u64 (finL x q 0 (q + k))), by omega, by go_num, by simp [hsz], HR.out, ?_⟩; rw [HF.out]
      case measure => simp [intOf]; omega
    · obtain rfl : k = n := by omega
      have hT := trim_any _ _ _ _ _ (by omega) (hfin ss m hsz hss)
      have hle := sizeL_le (finL x q 0) M
      clear hss hfin hmk hx hcw
      go_wp2_with (go_at_call 49; refine hT.mono ?_; rintro e w1 ⟨g, cap, rfl, hN, hB⟩)
      go_ret
      exact ⟨g, _, cap, rfl, Nat.le_trans hle (Nat.le_of_eq HM.out.symm), hN, (below_drewN (below1 w _)).trans (hB.mono (by simp))⟩

set_option maxHeartbeats 1000000 in
theorem left_p (b off n c q r : Nat) (s : Int) (x : Nat → Int) (w : World) (hn : n < 4000000000) (hq0 : q < 100000) (hr0 : r < 64) (hrp : 0 < r) (hq : s / 64 = q) (hr : s % 64 = r) (hs : 0 ≤ s) (h : Num w (some ⟨b, off, none⟩) n c x) :
    Calls Tryz.prog 33 #[.slice (some ⟨b, off, none⟩) n c, .int .i64 s] w fun e w' => ∃ g k cap, e = .returned (.slice (some ⟨g, 0, none⟩) k cap) ∧ k ≤ n + q + 1 ∧ Num w' (some ⟨g, 0, none⟩) k cap (finL x q r) ∧ Below w.heap.size w w' := by
  have hx := h.2.2.1
  have zx := h.2.2.2.1
  have hc : b < w.heap.size ∧ ∀ i, i < n → w.cell? ⟨b, off + i, none⟩ = some (.int .u64 (x i)) := by
    rcases h.2.2.2.2 with ⟨h, _⟩ | ⟨b', off', h, hbs, hc⟩
    · cases h
    · cases h; exact ⟨hbs, hc⟩
  obtain ⟨hbs, hc⟩ := hc
  have hcap := h.1
  have hs6 : s < 6400064 := by omega
  obtain ⟨M, hM⟩ : ∃ M, n + q + 1 = M := ⟨_, rfl⟩
  have hMi : (n : Int) + q + 1 = (M : Int) := by omega
  have hmk := fun w => make_any ((n : Int) + q + 1) M hMi (by omega) w
  have hfin : ∀ (ss : Array Value) (m : Nat), ss.size = M → (∀ j h, ss[j]'h = Value.int .u64 (stL x q r n j)) → Num ((w.alloc (.cells ss 22)).drewN m) (some ⟨w.heap.size, 0, none⟩) M M (finL x q r) := fun ss m h1 h2 => (num_of_block (by omega) (finL_words hx q r) (fun i hi => finL_zero hx zx q r (by omega) i (by omega)) h1 (fun j hj => by rw [h2 j hj, stL_end hx zx q r j (by omega)])).drewN m
  have HM : Hid (n + q + 1 = M) := hM
  have HZ : Hid ((arrOf (fun _ => 0) M).size = M ∧ ∀ j h, (arrOf (fun _ => 0) M)[j]'h = Value.int .u64 0) := ⟨arrOf_size _ _, fun j h => arrOf_get _ _ _ _⟩
  have hcw : ∀ (ss : Array Value) i, i < n → (w.alloc (.cells ss 22)).cell? ⟨b, off + i, none⟩ = some (.int .u64 (x i)) := fun ss i hi => ((below1 w _).cell (p := ⟨b, off + i, none⟩) hbs).trans (hc i hi)
  clear h zx hMi hc
  generalize arrOf (fun _ => 0) M = zz at *
  go_enter Tryz.func33, Tryz.ntmps33
  go_wp2
  go_loopw [6, 16] (fun u6 i wr => ∃ (k m : Nat) (ss : Array Value), k ≤ n ∧ i = .int .i64 k ∧ ss.size = M ∧ (∀ j h, ss[j]'h = Value.int .u64 (stL x q r k j)) ∧ wr = (w.alloc (.cells ss 22)).drewN m) (fun _ i _ => n - (intOf i).toNat)
  case atStart => exact ⟨0, 0, zz, Nat.zero_le _, rfl, HZ.out.1, fun j h => by rw [HZ.out.2 j h]; unfold stL; (by_cases e : j < q + 0); (rw [if_pos e]; unfold finL; rw [if_neg (by omega)]); (rw [if_neg e]; split; (unfold lowp; rw [if_neg (by omega)]); rfl), rfl⟩
  case round =>
    obtain ⟨k, m, ss, hk, rfl, hsz, hss, rfl⟩ := hrel
    by_cases h8 : k < n
    · have h8i : (k : Int) < n := by omega
      have h8s : k + q < ss.size := by omega
      have h8t : (k : Int) + q < M := by omega
      have h8u : (k : Int) + q + 1 < M := by omega
      have bx := hx k
      have hcx := hcw ss k h8
      have hsk : ss[k + q]? = some (.int .u64 (lowp x q r (q + k))) := by rw [Array.getElem?_eq_getElem h8s, hss _ h8s]; unfold stL; rw [if_neg (by omega), if_pos (by omega), Nat.add_comm]
      have hgo : ∀ h, ss[k + q]'h = .int .u64 (lowp x q r (q + k)) := fun h => by rw [hss _ h]; unfold stL; rw [if_neg (by omega), if_pos (by omega), Nat.add_comm]
      have h8v : k + q + 1 < ss.size := by omega
      have hsl : ss[k + q + 1]? = some (.int .u64 0) := by rw [Array.getElem?_eq_getElem h8v, hss _ h8v]; unfold stL; rw [if_neg (by omega), if_neg (by omega)]
      have hlow := lowp_word hx q r (q + k)
      have e1 : ((k : Int) + q).toNat = k + q := by omega
      have e2 : ((k : Int) + q + 1).toNat = k + q + 1 := by omega
      have HF : Hid (finL x q r (q + k) = bits BinOp.or IntKind.u64 (lowp x q r (q + k)) (IntKind.u64.wrap (x k * 2 ^ r))) := by
        show _ = _; unfold finL; rw [if_pos (by omega), show q + k - q = k by omega]; rfl
      have HR : Hid (∀ (i : Nat) (h : i < ((ss.setIfInBounds (k + q) (.int .u64 (finL x q r (q + k)))).setIfInBounds (k + q + 1) (.int .u64 (x k / 2 ^ (64 - r)))).size), ((ss.setIfInBounds (k + q) (.int .u64 (finL x q r (q + k)))).setIfInBounds (k + q + 1) (.int .u64 (x k / 2 ^ (64 - r))))[i]'h = Value.int .u64 (stL x q r (k + 1) i)) := stL_step1 hrp hss
      clear hss hfin hmk hx
      generalize hlo : lowp x q r (q + k) = lo at *
      have hcx' := hcw (ss.setIfInBounds (k + q) (.int .u64 (bits BinOp.or IntKind.u64 lo (IntKind.u64.wrap (x k * 2 ^ r))))) k h8
      clear hcw
      go_wp2
      go_region
      go_wp2
      go_roundw
      case rel => refine ⟨k + 1, m + 1, (ss.setIfInBounds (k + q) (.int .u64 (finL x q r (q + k)))).setIfInBounds (k + q + 1) (.int .u64 (x k / 2 ^ (64 - r))), by omega, by go_num, by simp [hsz], HR.out, ?_⟩; rw [HF.out]
      case measure => simp [intOf]; omega
    · obtain rfl : k = n := by omega
      have hT := trim_any _ _ _ _ _ (by omega) (hfin ss m hsz hss)
      have hle := sizeL_le (finL x q r) M
      clear hss hfin hmk hx hcw
      go_wp2_with (go_at_call 49; refine hT.mono ?_; rintro e w1 ⟨g, cap, rfl, hN, hB⟩)
      go_ret
      exact ⟨g, _, cap, rfl, Nat.le_trans hle (Nat.le_of_eq HM.out.symm), hN, (below_drewN (below1 w _)).trans (hB.mono (by simp))⟩
end Go.Proofs.YtckkibmehjlgaaaGreatDoor

namespace Go.Proofs.YtckkibmehjlgaaaGreatDoor
open Go.RowKit

set_option maxHeartbeats 1000000 in
theorem right_z (b off n c q : Nat) (s : Int) (x : Nat → Int) (w : World) (hn : n < 4000000000) (hq0 : q < 100000)  (hq : s / 64 = q) (hr : s % 64 = 0) (hs : 0 ≤ s) (h : Num w (some ⟨b, off, none⟩) n c x) :
    Calls Tryz.prog 69 #[.slice (some ⟨b, off, none⟩) n c, .int .i64 s] w fun e w' => ∃ g k cap z, e = .returned (.tuple #[.slice (some ⟨g, 0, none⟩) k cap, .bool z]) ∧ k ≤ n ∧ Num w' (some ⟨g, 0, none⟩) k cap (shrW x q 0) ∧ Below w.heap.size w w' := by
  have hx := h.2.2.1
  have zx := h.2.2.2.1
  have hc : b < w.heap.size ∧ ∀ i, i < n → w.cell? ⟨b, off + i, none⟩ = some (.int .u64 (x i)) := by
    rcases h.2.2.2.2 with ⟨h, _⟩ | ⟨b', off', h, hbs, hc⟩
    · cases h
    · cases h; exact ⟨hbs, hc⟩
  obtain ⟨hbs, hc⟩ := hc
  have hcap := h.1
  have hs6 : s < 6400064 := by omega
  obtain ⟨i0, hi, hz0, hz1, hz2⟩ := info_parts Tryz.info22
  have HX : Hid (Num w (some ⟨b, off, none⟩) n c x) := h
  clear h
  go_enter Tryz.func69, Tryz.ntmps69
  go_wp2
  go_loop [6, 7, 13] (fun g u7 i => ∃ (k : Nat) (z : Bool), k ≤ n ∧ i = .int .i64 k ∧ g = .bool z) (fun _ _ i => n - (intOf i).toNat)
  case atStart => exact ⟨0, false, Nat.zero_le _, rfl, rfl⟩
  case round =>
    obtain ⟨k, z, hk, rfl, rfl⟩ := hrel
    by_cases h8 : k < n
    · have h8i : (k : Int) < n := by omega
      by_cases hkq : k < q
      · have bx := hx k
        have hcx := hc k h8
        clear hc hx zx hi hz0 hz1 hz2
        have hkq' : (k : Int) < q := by omega
        by_cases hz : x k = 0
        · have hz' : (x k != 0) = false := by simp [hz]
          have hne : ((k : Int) == q) = false := by simp; omega
          go_wp2
          go_round
          case rel => exact ⟨k + 1, z, by omega, by go_num, rfl⟩
          case measure => simp [intOf]; omega
        · have hz' : (x k != 0) = true := by simp [hz]
          go_wp2
          go_round
          case rel => exact ⟨k + 1, true, by omega, by go_num, rfl⟩
          case measure => simp [intOf]; omega
      · have hkq' : ¬ (k : Int) < q := by omega
        by_cases hke : k = q
        · subst hke
          have bx := hx k
          have hcx := hc k h8
          clear hc hx zx hi hz0 hz1 hz2
          go_wp2
          all_goals
            go_round
            case rel => first | exact ⟨k + 1, true, by omega, by go_num, rfl⟩ | exact ⟨k + 1, z, by omega, by go_num, rfl⟩
            case measure => simp [intOf]; omega
        · have hcx := hc k h8
          clear hc hx zx hi hz0 hz1 hz2
          have hne : ((k : Int) == q) = false := by simp; omega
          go_wp2
          go_round
          case rel => exact ⟨k + 1, z, by omega, by go_num, rfl⟩
          case measure => simp [intOf]; omega
    · obtain rfl : k = n := by omega
      go_wp2
      go_loopw [8, 9, 10] (fun v i u10 wr => ∃ (j : Nat) (ao : Option Addr) (cp : Nat), j ≤ k - q ∧ i = .int .i64 ((q : Int) + j) ∧ v = .slice ao j cp ∧ wr.ownsRow w.heap.size 22 1 (.slice ao j cp) j (wl (shrW x q 0) j) ∧ Below w.heap.size w wr) (fun _ i _ _ => k + 1 - (intOf i).toNat)
      case atStart => exact ⟨0, none, 0, Nat.zero_le _, by go_num, rfl, World.ownsRow_nil _ _ _ _, Below.refl _ _⟩
      case round =>
        obtain ⟨j, ao, cp, hj, rfl, rfl, hown, hB⟩ := hrel
        by_cases hlt : q + j < k
        · have hlt' : (q : Int) + j < k := by omega
          have bx := hx (q + j)
          have b_y := hx (q + j + 1)
          have e1 : ((q : Int) + j).toNat = q + j := by omega
          have hcx : wr.cell? ⟨b, off + (q + j), none⟩ = some (.int .u64 (x (q + j))) := (hB.cell (p := ⟨b, off + (q + j), none⟩) hbs).trans (hc (q + j) hlt)
          have HW : Hid (Calls Tryz.prog 51 #[.slice (some ⟨b, off, none⟩) k c, .int .i64 ((q : Int) + j + 1)] wr fun e w' => e = .returned (.int .u64 (x (q + j + 1))) ∧ wr = w') := by
            have := word_any (some ⟨b, off, none⟩) k c (q + j + 1) x wr (HX.out.next hB)
            rw [show ((q + j + 1 : Nat) : Int) = (q : Int) + j + 1 by omega] at this
            exact this.mono fun _ _ h => ⟨h.1, h.2.symm⟩
          have hbw := hB.size
          have HO : Hid (wr.ownsRow w.heap.size 22 1 (.slice ao j cp) j (wl (shrW x q 0) j)) := hown
          have HVAL : Hid (shrW x q 0 j = x (q + j)) := by show _ = _; simp [shrW]
          have HOWN : (wr.alloc (.cells #[.int .u64 (x (q + j))] 22)).ownsRow w.heap.size 22 1 (.slice ao j cp) j (wl (shrW x q 0) j) := hown.alloc _
          have HNEWS : ∀ (p : Nat) (u : Value), [Value.int .u64 (x (q + j))][p]? = some u → (wr.alloc (.cells #[.int .u64 (x (q + j))] 22)).cell? ((⟨wr.heap.size, 0, none⟩ : Addr).add p) = some u := by
            intro p u hp
            match p, hp with
            | 0, hp => simp at hp; subst hp; simp [Addr.add]
          have HONE : ∀ u ∈ [Value.int .u64 (x (q + j))], u.oneCell' = true := by
            intro u hu; simp at hu; subst hu; rfl
          clear hc hx zx hown
          go_wp2_with (first | (at_builtin; refine wpList_append_lies _ rfl (.tmp 77) (.tmp 79) 39 rfl w.heap.size 22 i0 (.int .u64 0) 1 8 Tryz.underlying39 hi hz0 hz1 hz2 rfl (by decide) (.slice ao j cp) j (wl (shrW x q 0) j) rfl HOWN ⟨wr.heap.size, 0, none⟩ 1 1 [Value.int .u64 (x (q + j))] rfl rfl HNEWS HONE (by omega) (by unfold maxLen; omega) (by omega) (by simp; omega) (wr.heap.size + 1) (by simp) ?_; intro g cap w1 hown1 hgrow hat hlt1; clear HOWN HNEWS HONE) | (go_at_call 51; refine HW.out.mono ?_; rintro e w' ⟨rfl, rfl⟩))
          have hown2 : w1.ownsRow w.heap.size 22 1 (.slice (some ⟨g, 0, none⟩) (j + 1) cap) (j + 1) (wl (shrW x q 0) (j + 1)) := by
            rw [← HVAL.out, wl_succ] at hown1; exact hown1
          have HB2 : Below w.heap.size w w1 := (hB.alloc hbw _).grown hgrow (by simp; omega) (by
            intro p hp
            rcases ao with _ | ⟨bb, oo, sp⟩
            · cases hp
            · cases hp
              obtain ⟨_, h1⟩ := HO.out
              rcases h1 with ⟨h1, _⟩ | ⟨g', _, _, h1, h2, _⟩
              · cases h1
              · cases h1; exact h2)
          clear hown1 hgrow
          go_wp2
          go_roundw
          case rel => exact ⟨j + 1, some ⟨g, 0, none⟩, cap, by omega, by go_num, rfl, hown2, HB2⟩
          case measure => simp [intOf]; omega
        · have HZ : ∀ i, j ≤ i → shrW x q 0 i = 0 := fun i hi => shrW_zero zx q 0 i (by omega)
          have hT := trim_any ao j cp _ wr (by omega) (num_of_owns' (shrW_words hx q 0) HZ hown)
          have hle := sizeL_le (shrW x q 0) j
          have hlt' : ¬ (q : Int) + j < k := by omega
          clear hc hx zx hown HZ
          go_wp2_with (go_at_call 49; refine hT.mono ?_; rintro e w1 ⟨g, cap, rfl, hN, hB1⟩)
          go_ret2
          exact ⟨g, _, cap, _, rfl, by omega, hN, hB.trans (hB1.mono hB.size)⟩

set_option maxHeartbeats 1000000 in
theorem right_p (b off n c q r : Nat) (s : Int) (x : Nat → Int) (w : World) (hn : n < 4000000000) (hq0 : q < 100000) (hr0 : r < 64) (hrp : 0 < r) (hq : s / 64 = q) (hr : s % 64 = r) (hs : 0 ≤ s) (h : Num w (some ⟨b, off, none⟩) n c x) :
    Calls Tryz.prog 69 #[.slice (some ⟨b, off, none⟩) n c, .int .i64 s] w fun e w' => ∃ g k cap z, e = .returned (.tuple #[.slice (some ⟨g, 0, none⟩) k cap, .bool z]) ∧ k ≤ n ∧ Num w' (some ⟨g, 0, none⟩) k cap (shrW x q r) ∧ Below w.heap.size w w' := by
  have hx := h.2.2.1
  have zx := h.2.2.2.1
  have hc : b < w.heap.size ∧ ∀ i, i < n → w.cell? ⟨b, off + i, none⟩ = some (.int .u64 (x i)) := by
    rcases h.2.2.2.2 with ⟨h, _⟩ | ⟨b', off', h, hbs, hc⟩
    · cases h
    · cases h; exact ⟨hbs, hc⟩
  obtain ⟨hbs, hc⟩ := hc
  have hcap := h.1
  have hs6 : s < 6400064 := by omega
  obtain ⟨i0, hi, hz0, hz1, hz2⟩ := info_parts Tryz.info22
  have HX : Hid (Num w (some ⟨b, off, none⟩) n c x) := h
  clear h
  go_enter Tryz.func69, Tryz.ntmps69
  go_wp2
  go_loop [6, 7, 13] (fun g u7 i => ∃ (k : Nat) (z : Bool), k ≤ n ∧ i = .int .i64 k ∧ g = .bool z) (fun _ _ i => n - (intOf i).toNat)
  case atStart => exact ⟨0, false, Nat.zero_le _, rfl, rfl⟩
  case round =>
    obtain ⟨k, z, hk, rfl, rfl⟩ := hrel
    by_cases h8 : k < n
    · have h8i : (k : Int) < n := by omega
      by_cases hkq : k < q
      · have bx := hx k
        have hcx := hc k h8
        clear hc hx zx hi hz0 hz1 hz2
        have hkq' : (k : Int) < q := by omega
        by_cases hz : x k = 0
        · have hz' : (x k != 0) = false := by simp [hz]
          have hne : ((k : Int) == q) = false := by simp; omega
          go_wp2
          go_round
          case rel => exact ⟨k + 1, z, by omega, by go_num, rfl⟩
          case measure => simp [intOf]; omega
        · have hz' : (x k != 0) = true := by simp [hz]
          go_wp2
          go_round
          case rel => exact ⟨k + 1, true, by omega, by go_num, rfl⟩
          case measure => simp [intOf]; omega
      · have hkq' : ¬ (k : Int) < q := by omega
        by_cases hke : k = q
        · subst hke
          have bx := hx k
          have hcx := hc k h8
          clear hc hx zx hi hz0 hz1 hz2
          go_wp2
          all_goals
            go_round
            case rel => first | exact ⟨k + 1, true, by omega, by go_num, rfl⟩ | exact ⟨k + 1, z, by omega, by go_num, rfl⟩
            case measure => simp [intOf]; omega
        · have hcx := hc k h8
          clear hc hx zx hi hz0 hz1 hz2
          have hne : ((k : Int) == q) = false := by simp; omega
          go_wp2
          go_round
          case rel => exact ⟨k + 1, z, by omega, by go_num, rfl⟩
          case measure => simp [intOf]; omega
    · obtain rfl : k = n := by omega
      go_wp2
      go_loopw [8, 9, 10] (fun v i u10 wr => ∃ (j : Nat) (ao : Option Addr) (cp : Nat), j ≤ k - q ∧ i = .int .i64 ((q : Int) + j) ∧ v = .slice ao j cp ∧ wr.ownsRow w.heap.size 22 1 (.slice ao j cp) j (wl (shrW x q r) j) ∧ Below w.heap.size w wr) (fun _ i _ _ => k + 1 - (intOf i).toNat)
      case atStart => exact ⟨0, none, 0, Nat.zero_le _, by go_num, rfl, World.ownsRow_nil _ _ _ _, Below.refl _ _⟩
      case round =>
        obtain ⟨j, ao, cp, hj, rfl, rfl, hown, hB⟩ := hrel
        by_cases hlt : q + j < k
        · have hlt' : (q : Int) + j < k := by omega
          have bx := hx (q + j)
          have b_y := hx (q + j + 1)
          have e1 : ((q : Int) + j).toNat = q + j := by omega
          have hcx : wr.cell? ⟨b, off + (q + j), none⟩ = some (.int .u64 (x (q + j))) := (hB.cell (p := ⟨b, off + (q + j), none⟩) hbs).trans (hc (q + j) hlt)
          have HW : Hid (Calls Tryz.prog 51 #[.slice (some ⟨b, off, none⟩) k c, .int .i64 ((q : Int) + j + 1)] wr fun e w' => e = .returned (.int .u64 (x (q + j + 1))) ∧ wr = w') := by
            have := word_any (some ⟨b, off, none⟩) k c (q + j + 1) x wr (HX.out.next hB)
            rw [show ((q + j + 1 : Nat) : Int) = (q : Int) + j + 1 by omega] at this
            exact this.mono fun _ _ h => ⟨h.1, h.2.symm⟩
          have hbw := hB.size
          have HO : Hid (wr.ownsRow w.heap.size 22 1 (.slice ao j cp) j (wl (shrW x q r) j)) := hown
          have HVAL : Hid (shrW x q r j = bits BinOp.or IntKind.u64 (x (q + j) / 2 ^ r) (IntKind.u64.wrap (x (q + j + 1) * 2 ^ (64 - r)))) := by show _ = _; unfold shrW; rw [if_neg (by omega)]; rfl
          have HOWN : (wr.alloc (.cells #[.int .u64 (bits BinOp.or IntKind.u64 (x (q + j) / 2 ^ r) (IntKind.u64.wrap (x (q + j + 1) * 2 ^ (64 - r))))] 22)).ownsRow w.heap.size 22 1 (.slice ao j cp) j (wl (shrW x q r) j) := hown.alloc _
          have HNEWS : ∀ (p : Nat) (u : Value), [Value.int .u64 (bits BinOp.or IntKind.u64 (x (q + j) / 2 ^ r) (IntKind.u64.wrap (x (q + j + 1) * 2 ^ (64 - r))))][p]? = some u → (wr.alloc (.cells #[.int .u64 (bits BinOp.or IntKind.u64 (x (q + j) / 2 ^ r) (IntKind.u64.wrap (x (q + j + 1) * 2 ^ (64 - r))))] 22)).cell? ((⟨wr.heap.size, 0, none⟩ : Addr).add p) = some u := by
            intro p u hp
            match p, hp with
            | 0, hp => simp at hp; subst hp; simp [Addr.add]
          have HONE : ∀ u ∈ [Value.int .u64 (bits BinOp.or IntKind.u64 (x (q + j) / 2 ^ r) (IntKind.u64.wrap (x (q + j + 1) * 2 ^ (64 - r))))], u.oneCell' = true := by
            intro u hu; simp at hu; subst hu; rfl
          clear hc hx zx hown
          go_wp2_with (first | (at_builtin; refine wpList_append_lies _ rfl (.tmp 77) (.tmp 79) 39 rfl w.heap.size 22 i0 (.int .u64 0) 1 8 Tryz.underlying39 hi hz0 hz1 hz2 rfl (by decide) (.slice ao j cp) j (wl (shrW x q r) j) rfl HOWN ⟨wr.heap.size, 0, none⟩ 1 1 [Value.int .u64 (bits BinOp.or IntKind.u64 (x (q + j) / 2 ^ r) (IntKind.u64.wrap (x (q + j + 1) * 2 ^ (64 - r))))] rfl rfl HNEWS HONE (by omega) (by unfold maxLen; omega) (by omega) (by simp; omega) (wr.heap.size + 1) (by simp) ?_; intro g cap w1 hown1 hgrow hat hlt1; clear HOWN HNEWS HONE) | (go_at_call 51; refine HW.out.mono ?_; rintro e w' ⟨rfl, rfl⟩))
          have hown2 : w1.ownsRow w.heap.size 22 1 (.slice (some ⟨g, 0, none⟩) (j + 1) cap) (j + 1) (wl (shrW x q r) (j + 1)) := by
            rw [← HVAL.out, wl_succ] at hown1; exact hown1
          have HB2 : Below w.heap.size w w1 := (hB.alloc hbw _).grown hgrow (by simp; omega) (by
            intro p hp
            rcases ao with _ | ⟨bb, oo, sp⟩
            · cases hp
            · cases hp
              obtain ⟨_, h1⟩ := HO.out
              rcases h1 with ⟨h1, _⟩ | ⟨g', _, _, h1, h2, _⟩
              · cases h1
              · cases h1; exact h2)
          clear hown1 hgrow
          go_wp2
          go_roundw
          case rel => exact ⟨j + 1, some ⟨g, 0, none⟩, cap, by omega, by go_num, rfl, hown2, HB2⟩
          case measure => simp [intOf]; omega
        · have HZ : ∀ i, j ≤ i → shrW x q r i = 0 := fun i hi => shrW_zero zx q r i (by omega)
          have hT := trim_any ao j cp _ wr (by omega) (num_of_owns' (shrW_words hx q r) HZ hown)
          have hle := sizeL_le (shrW x q r) j
          have hlt' : ¬ (q : Int) + j < k := by omega
          clear hc hx zx hown HZ
          go_wp2_with (go_at_call 49; refine hT.mono ?_; rintro e w1 ⟨g, cap, rfl, hN, hB1⟩)
          go_ret2
          exact ⟨g, _, cap, _, rfl, by omega, hN, hB.trans (hB1.mono hB.size)⟩
end Go.Proofs.YtckkibmehjlgaaaGreatDoor

namespace Go.Proofs.YtckkibmehjlgaaaGreatDoor
open Go.RowKit
attribute [local go_sem] setCell_drewN alloc_drewN

theorem upd_get {ss : Array Value} {z : Nat → Int} {p : Nat} {v : Int} (h : ∀ j h, ss[j]'h = Value.int .u64 (z j)) (j : Nat) (hj : j < (ss.setIfInBounds p (.int .u64 v)).size) : (ss.setIfInBounds p (.int .u64 v))[j]'hj = Value.int .u64 (if j = p then v else z j) := by
  have h' : j < ss.size := by simpa using hj
  rw [Array.getElem_setIfInBounds h']
  by_cases e : p = j
  · subst e; simp
  · rw [if_neg e, h j h', if_neg (Ne.symm e)]
/-- the end of a round of the outer loop -/
theorem mul_outer (V Vi a vb c : Int) (i k : Nat) (h : V + c * 18446744073709551616 ^ (i + k) = Vi * vb + a * vb * 18446744073709551616 ^ i) : V + (c - 0) * 18446744073709551616 ^ (i + k) = (Vi + a * 18446744073709551616 ^ i) * vb := by
  rw [Int.sub_zero, h]; generalize (18446744073709551616 : Int) ^ i = p; grind

set_option maxHeartbeats 2000000 in
theorem times_raw (b off n c b' off' n' c' : Nat) (x y : Nat → Int) (w : World) (hn : n < 1000000) (hn' : n' < 1000000) (h : Num w (some ⟨b, off, none⟩) n c x) (h' : Num w (some ⟨b', off', none⟩) n' c' y) :
    Calls Tryz.prog 32 #[.slice (some ⟨b, off, none⟩) n c, .slice (some ⟨b', off', none⟩) n' c'] w fun e w' => ∃ g k cap z, e = .returned (.slice (some ⟨g, 0, none⟩) k cap) ∧ k ≤ n + n' + 1 ∧ Num w' (some ⟨g, 0, none⟩) k cap z ∧ val z (n + n' + 1) = val x n * val y n' ∧ Below w.heap.size w w' := by
  have hx := h.2.2.1
  have hy := h'.2.2.1
  have hc : b < w.heap.size ∧ ∀ i, i < n → w.cell? ⟨b, off + i, none⟩ = some (.int .u64 (x i)) := by
    rcases h.2.2.2.2 with ⟨h, _⟩ | ⟨b', off', h, hbs, hc⟩
    · cases h
    · cases h; exact ⟨hbs, hc⟩
  have hc' : b' < w.heap.size ∧ ∀ i, i < n' → w.cell? ⟨b', off' + i, none⟩ = some (.int .u64 (y i)) := by
    rcases h'.2.2.2.2 with ⟨h, _⟩ | ⟨b', off', h, hbs, hc⟩
    · cases h
    · cases h; exact ⟨hbs, hc⟩
  have hcap := h.1
  have hcap' := h'.1
  obtain ⟨M, hM⟩ : ∃ M, n + n' + 1 = M := ⟨_, rfl⟩
  have hMi : (n : Int) + n' + 1 = (M : Int) := by omega
  have hmk := fun w => make_any ((n : Int) + n' + 1) M hMi (by omega) w
  have hcw : ∀ (ss : Array Value) i, i < n → (w.alloc (.cells ss 22)).cell? ⟨b, off + i, none⟩ = some (.int .u64 (x i)) := fun ss i hi => ((below1 w _).cell (p := ⟨b, off + i, none⟩) hc.1).trans (hc.2 i hi)
  have hcw' : ∀ (ss : Array Value) i, i < n' → (w.alloc (.cells ss 22)).cell? ⟨b', off' + i, none⟩ = some (.int .u64 (y i)) := fun ss i hi => ((below1 w _).cell (p := ⟨b', off' + i, none⟩) hc'.1).trans (hc'.2 i hi)
  have HM : Hid (n + n' + 1 = M) := hM
  have HZ : Hid ((arrOf (fun _ => 0) M).size = M ∧ ∀ j h, (arrOf (fun _ => 0) M)[j]'h = Value.int .u64 0) := ⟨arrOf_size _ _, fun j h => arrOf_get _ _ _ _⟩
  clear h h' hMi hc hc' hM
  generalize arrOf (fun _ => 0) M = zz at *
  go_enter Tryz.func32, Tryz.ntmps32
  go_wp2
  go_loopw [22] (fun i wr => ∃ (k m : Nat) (ss : Array Value) (z : Nat → Int), k ≤ n ∧ i = .int .i64 k ∧ ss.size = M ∧ (∀ j h, ss[j]'h = Value.int .u64 (z j)) ∧ Words z ∧ (∀ j, k + n' ≤ j → z j = 0) ∧ val z M = val x k * val y n' ∧ wr = (w.alloc (.cells ss 22)).drewN m) (fun i _ => n - (intOf i).toNat)
  case atStart =>
    refine ⟨0, 0, zz, fun _ => 0, Nat.zero_le _, rfl, HZ.out.1, HZ.out.2, fun _ => (by decide : (0 : Int) ≤ 0 ∧ (0 : Int) ≤ 18446744073709551615), fun _ _ => rfl, ?_, rfl⟩
    have : ∀ m, val (fun _ => 0) m = 0 := by intro m; induction m with | zero => rfl | succ m ih => simp only [val]; rw [ih]; simp
    rw [this]; simp [val]
  case round =>
    obtain ⟨k, m, ss, z, hk, rfl, hsz, hss, hzw, hz0, hv, rfl⟩ := hrel
    by_cases h8 : k < n
    · have h8i : (k : Int) < n := by omega
      have bx := hx k
      have hcx := fun ss => hcw ss k h8
      have h0p : (∀ j, k + n' ≤ j → z j = 0) := hz0
      go_wp2
      go_loopw [7, 27] (fun cc kk wr => ∃ (q m : Nat) (ss : Array Value) (z : Nat → Int) (C : Int), q ≤ n' ∧ kk = .int .i64 q ∧ cc = .int .u64 C ∧ (0 ≤ C ∧ C ≤ 18446744073709551615) ∧ ss.size = M ∧ (∀ j h, ss[j]'h = Value.int .u64 (z j)) ∧ Words z ∧ (∀ j, k + n' ≤ j → z j = 0) ∧ Hid (val z M + C * 18446744073709551616 ^ (k + q) = val x k * val y n' + x k * val y q * 18446744073709551616 ^ k) ∧ wr = (w.alloc (.cells ss 22)).drewN m) (fun _ kk _ => n' - (intOf kk).toNat)
      case atStart => exact ⟨0, m, ss, z, 0, Nat.zero_le _, rfl, rfl, by decide, hsz, hss, hzw, hz0, by show _ = _; rw [hv]; simp [val], rfl⟩
      case round =>
        clear hss hsz hzw hz0 hv h0p
        obtain ⟨q, m2, s2, z2, C, hq, rfl, rfl, hCb, hsz, hss, hzw, hz0, hv, rfl⟩ := hrel
        by_cases hqn : q < n'
        · have hqi : (q : Int) < n' := by omega
          have b_y := hy q
          have hcy := hcw' s2 q hqn
          have hcx2 := hcx s2
          have hp : k + q < s2.size := by have := HM.out; omega
          have hpi : (k : Int) + q < M := by have := HM.out; omega
          have e1 : ((k : Int) + q).toNat = k + q := by omega
          have hsp : s2[k + q]? = some (.int .u64 (z2 (k + q))) := by rw [Array.getElem?_eq_getElem hp, hss _ hp]
          have hsp' : ∀ h, s2[k + q]'h = .int .u64 (z2 (k + q)) := fun h => hss _ h
          have hzp := hzw (k + q)
          have hms := mul_step (x k) (y q) (z2 (k + q)) C bx b_y hzp hCb
          have hmul := mul64 (x k) (y q) bx b_y
          have hL0 : 0 ≤ x k * y q % 18446744073709551616 := Int.emod_nonneg _ (by decide)
          have hH0 : 0 ≤ x k * y q / 18446744073709551616 := Int.ediv_nonneg (Int.mul_nonneg bx.1 b_y.1) (by decide)
          have hA1 := fun w => add64z (x k * y q % 18446744073709551616) (z2 (k + q)) hL0 hzp.1 w
          have hs0 : 0 ≤ (x k * y q % 18446744073709551616 + z2 (k + q)) % 18446744073709551616 := Int.emod_nonneg _ (by decide)
          have hd0 : 0 ≤ (x k * y q % 18446744073709551616 + z2 (k + q)) / 18446744073709551616 := Int.ediv_nonneg (by omega) (by decide)
          have hA2 := fun w => add64z ((x k * y q % 18446744073709551616 + z2 (k + q)) % 18446744073709551616) C hs0 hCb.1 w
          have ht0 : 0 ≤ ((x k * y q % 18446744073709551616 + z2 (k + q)) % 18446744073709551616 + C) % 18446744073709551616 ∧ ((x k * y q % 18446744073709551616 + z2 (k + q)) % 18446744073709551616 + C) % 18446744073709551616 ≤ 18446744073709551615 := by omega
          have hf0 : 0 ≤ ((x k * y q % 18446744073709551616 + z2 (k + q)) % 18446744073709551616 + C) / 18446744073709551616 := Int.ediv_nonneg (by omega) (by decide)
          generalize ((x k * y q % 18446744073709551616 + z2 (k + q)) % 18446744073709551616 + C) % 18446744073709551616 = t2 at *
          generalize ((x k * y q % 18446744073709551616 + z2 (k + q)) % 18446744073709551616 + C) / 18446744073709551616 = f2 at *
          generalize (x k * y q % 18446744073709551616 + z2 (k + q)) % 18446744073709551616 = t1 at *
          generalize (x k * y q % 18446744073709551616 + z2 (k + q)) / 18446744073709551616 = f1 at *
          generalize x k * y q % 18446744073709551616 = lo at *
          generalize x k * y q / 18446744073709551616 = hi at *
          have HMS : Hid (t2 + (hi + f1 + f2) * 18446744073709551616 = x k * y q + z2 (k + q) + C) := hms.1
          have hb1 : 0 ≤ hi + f1 := hms.2.1
          have hb2 : hi + f1 ≤ 18446744073709551615 := hms.2.2.1
          have hb3 : 0 ≤ hi + f1 + f2 := hms.2.2.2.1
          have hb4 : hi + f1 + f2 ≤ 18446744073709551615 := hms.2.2.2.2
          have HSS : Hid (∀ j h, s2[j]'h = Value.int .u64 (z2 j)) := hss
          have HZW : Hid (Words z2) := hzw
          have HZ0 : Hid (∀ j, k + n' ≤ j → z2 j = 0) := hz0
          have HR : Hid (val (fun j => if j = k + q then t2 else z2 j) M + (hi + f1 + f2) * 18446744073709551616 ^ (k + (q + 1)) = val x k * val y n' + x k * val y (q + 1) * 18446744073709551616 ^ k) := by
            show _ = _
            rw [val_set z2 (k + q) t2 M (by have := HM.out; omega)]
            exact mul_inner _ _ _ _ _ _ _ _ _ k q hv.out hms.1
          clear hms hss hzw hz0 hx hy hcw hcw' hmk hv
          go_wp2
          go_quiet ((go_at_call 67; exact (hmul _).mono fun _ _ h => ⟨h.1, _, h.2⟩))
          go_wp2
          go_roundw
          case rel => exact ⟨q + 1, m2 + nq, s2.setIfInBounds (k + q) (.int .u64 t2), fun j => if j = k + q then t2 else z2 j, hi + f1 + f2, by omega, by go_num, rfl, ⟨hb3, hb4⟩, by simp [hsz], upd_get HSS.out, upd_words HZW.out ht0, fun j hj => (if_neg (show ¬ j = k + q by omega)).trans (HZ0.out j hj), HR, by simp [go_sem]⟩
          case measure => simp [intOf]; omega
        · obtain rfl : q = n' := by omega
          have hp : k + q < s2.size := by have := HM.out; omega
          have hpi : (k : Int) + q < M := by have := HM.out; omega
          have e1 : ((k : Int) + q).toNat = k + q := by omega
          have hsp : s2[k + q]? = some (.int .u64 0) := by rw [Array.getElem?_eq_getElem hp, hss _ hp, hz0 _ (Nat.le_refl _)]
          have HR : Hid (val (fun j => if j = k + q then C else z2 j) M = val x (k + 1) * val y q) := by
            show _ = _
            rw [val_set z2 (k + q) C M (by have := HM.out; omega), hz0 _ (Nat.le_refl _)]
            exact mul_outer _ _ _ _ _ k q hv.out
          have HSS : Hid (∀ j h, s2[j]'h = Value.int .u64 (z2 j)) := hss
          have HZW : Hid (Words z2) := hzw
          have HZ0 : Hid (∀ j, k + q ≤ j → z2 j = 0) := hz0
          clear hss hzw hz0 hx hy hcw hcw' hmk hv hcx
          go_wp2
          go_roundw
          case rel => exact ⟨k + 1, m2, s2.setIfInBounds (k + q) (.int .u64 C), fun j => if j = k + q then C else z2 j, by omega, by go_num, by simp [hsz], upd_get HSS.out, upd_words HZW.out hCb, fun j hj => (if_neg (show ¬ j = k + q by omega)).trans (HZ0.out j (by omega)), HR.out, by simp [go_sem]⟩
          case measure => simp [intOf]; omega
    · obtain rfl : k = n := by omega
      have hT := trim_any _ _ _ _ _ (by have := HM.out; omega) ((num_of_block (w := w) (by have := HM.out; omega) hzw (fun i hi => hz0 i (by have := HM.out; omega)) hsz hss).drewN m)
      have hle := sizeL_le z M
      clear hss hmk hx hy hcw hcw' hzw hz0
      go_wp2_with (go_at_call 49; refine hT.mono ?_; rintro e w1 ⟨g, cap, rfl, hN, hB⟩)
      go_ret
      exact ⟨g, _, cap, z, rfl, Nat.le_trans hle (Nat.le_of_eq HM.out.symm), hN, by rw [HM.out]; exact hv, (below_drewN (below1 w _)).trans (hB.mono (by simp))⟩
end Go.Proofs.YtckkibmehjlgaaaGreatDoor

namespace Go.Proofs.YtckkibmehjlgaaaGreatDoor
open Go.RowKit
attribute [local go_sem] setCell_drewN alloc_drewN

theorem val_one (r : Int) : ∀ n, 0 < n → val (oneW r) n = r
  | 0, h => by omega
  | 1, _ => by simp [val, oneW]
  | n + 2, _ => by
    have ih := val_one r (n + 1) (by omega)
    show val (oneW r) (n + 1) + oneW r (n + 1) * _ = r
    rw [ih]; simp [oneW]
end Go.Proofs.YtckkibmehjlgaaaGreatDoor

namespace Go.Proofs.YtckkibmehjlgaaaGreatDoor
open Go.RowKit

/-- no borrow is left over where y is no greater -/
theorem borW_end {x y : Nat → Int} (hx : Words x) (hy : Words y) {n : Nat} (h : val y n ≤ val x n) : borW x y n = 0 := by
  have e := dif_val hx hy n
  have h1 := val_bd (difW_words x y) n
  have h2 := borW_01 x y n
  have h3 := pw_pos n
  by_cases h0 : borW x y n = 0
  · exact h0
  · have : borW x y n = 1 := by omega
    rw [this] at e; omega

end Go.Proofs.YtckkibmehjlgaaaGreatDoor

namespace Go.Proofs.YtckkibmehjlgaaaGreatDoor
open Go.RowKit

theorem radd_val (a a' : Option Addr) (n c n' c' : Nat) (x y : Nat → Int) (w : World) (hn : n < 4000000000) (hn' : n' < 4000000000) (h : Num w a n c x) (h' : Num w a' n' c' y) :
    Calls Tryz.prog 18 #[.slice a n c, .slice a' n' c'] w fun e w' => ∃ g k cap z, e = .returned (.slice (some ⟨g, 0, none⟩) k cap) ∧ k ≤ max n n' + 1 ∧ Num w' (some ⟨g, 0, none⟩) k cap z ∧ val z k = val x n + val y n' ∧ Below w.heap.size w w' := by
  refine (radd_any a a' n c n' c' x y w (by omega) (by omega) h h').mono fun e w' ⟨g, k, cap, e1, hk, hN, hB⟩ => ⟨g, k, cap, _, e1, hk, hN, ?_, hB⟩
  have e := sum_val (x := x) (y := y) (max n n' + 1)
  rw [sum_end h.2.2.1 h'.2.2.1 h.2.2.2.1 h'.2.2.2.1 (by omega) (by omega), val_more h.2.2.2.1 _ (by omega), val_more h'.2.2.2.1 _ (by omega), val_more hN.2.2.2.1 _ hk] at e
  omega
end Go.Proofs.YtckkibmehjlgaaaGreatDoor

namespace Go.Proofs.YtckkibmehjlgaaaGreatDoor
open Go.RowKit

theorem times_val (b off n c b' off' n' c' : Nat) (x y : Nat → Int) (w : World) (hn : n < 1000000) (hn' : n' < 1000000) (h : Num w (some ⟨b, off, none⟩) n c x) (h' : Num w (some ⟨b', off', none⟩) n' c' y) :
    Calls Tryz.prog 32 #[.slice (some ⟨b, off, none⟩) n c, .slice (some ⟨b', off', none⟩) n' c'] w fun e w' => ∃ g k cap z, e = .returned (.slice (some ⟨g, 0, none⟩) k cap) ∧ k ≤ n + n' + 1 ∧ Num w' (some ⟨g, 0, none⟩) k cap z ∧ val z k = val x n * val y n' ∧ Below w.heap.size w w' :=
  (times_raw b off n c b' off' n' c' x y w hn hn' h h').mono fun e w' ⟨g, k, cap, z, e1, hk, hN, hv, hB⟩ => ⟨g, k, cap, z, e1, hk, hN, by rw [← hv, val_more hN.2.2.2.1 _ hk], hB⟩

end Go.Proofs.YtckkibmehjlgaaaGreatDoor

namespace Go.Proofs.YtckkibmehjlgaaaGreatDoor
open Go.RowKit

theorem pow_half (s : Int) (m : Nat) : s ^ m = (if m % 2 = 1 then s else 1) * (s * s) ^ (m / 2) := by
  have e : (s * s) ^ (m / 2) = s ^ (2 * (m / 2)) := by rw [Int.pow_mul]; congr 1; rw [Int.pow_succ, Int.pow_succ, Int.pow_zero, Int.one_mul]
  rw [e]
  by_cases h : m % 2 = 1
  · rw [if_pos h, Int.mul_comm, ← Int.pow_succ]; congr 1; omega
  · rw [if_neg h, Int.one_mul]; congr 1; omega

set_option maxHeartbeats 2000000 in
theorem rpow_any (b : Int) (n : Nat) (w : World) (hb : 0 ≤ b ∧ b ≤ 18446744073709551615) (hn : n ≤ 12000) :
    Calls Tryz.prog 48 #[.int .u64 b, .int .i64 n] w fun e w' => ∃ g k cap z, e = .returned (.slice (some ⟨g, 0, none⟩) k cap) ∧ k ≤ 50000 ∧ Num w' (some ⟨g, 0, none⟩) k cap z ∧ val z k = b ^ n ∧ Below w.heap.size w w' := by
  have hN1 := num_one w 1 (by decide)
  have hB1 := below1 w (.cells #[.int .u64 1] 22)
  have hN2 := num_one (w.alloc (.cells #[.int .u64 1] 22)) b hb
  have hB2 := below1 (w.alloc (.cells #[.int .u64 1] 22)) (.cells #[.int .u64 b] 22)
  have hN1' := hN1.next hB2
  have hB := hB1.trans (hB2.mono hB1.size)
  have hs : (w.alloc (.cells #[.int .u64 1] 22)).heap.size = w.heap.size + 1 := by simp
  rw [hs] at hN2
  have HB : Hid (Below w.heap.size w ((w.alloc (.cells #[.int .u64 1] 22)).alloc (.cells #[.int .u64 b] 22))) := hB
  clear hN1 hB1 hB2 hB hs
  go_enter Tryz.func48, Tryz.ntmps48
  go_wp2
  generalize (w.alloc (.cells #[.int .u64 1] 22)).alloc (.cells #[.int .u64 b] 22) = wA at *
  go_loopw [1, 5, 6] (fun nv ov sv wr => ∃ (m P g1 k1 p1 g2 k2 p2 : Nat) (z1 z2 : Nat → Int), nv = .int .i64 m ∧ m ≤ n ∧ 1 ≤ P ∧ m * P ≤ n ∧ P ≤ 2 * n + 1 ∧ ov = .slice (some ⟨g1, 0, none⟩) k1 p1 ∧ sv = .slice (some ⟨g2, 0, none⟩) k2 p2 ∧ k1 + 1 ≤ 2 * P ∧ k2 + 1 ≤ 2 * P ∧ Num wr (some ⟨g1, 0, none⟩) k1 p1 z1 ∧ Num wr (some ⟨g2, 0, none⟩) k2 p2 z2 ∧ Hid (val z1 k1 * val z2 k2 ^ m = b ^ n) ∧ Below w.heap.size w wr) (fun nv _ _ _ => (intOf nv).toNat)
  case atStart => exact ⟨n, 1, w.heap.size, 1, 1, w.heap.size + 1, 1, 1, oneW 1, oneW b, rfl, Nat.le_refl _, Nat.le_refl _, by omega, by omega, rfl, rfl, by omega, by omega, hN1', hN2, by show _ = _; rw [val_one1, val_one1, Int.one_mul], HB.out⟩
  case round =>
    clear hN1' hN2 HB
    obtain ⟨m, P, g1, k1, p1, g2, k2, p2, z1, z2, rfl, hmn, hP, hmP, hP2, rfl, rfl, hk1, hk2, hN1, hN2, hv, hB⟩ := hrel
    by_cases h0 : m = 0
    · subst h0
      have HV : Hid (val z1 k1 = b ^ n) := by show _ = _; have := hv.out; simpa using this
      have HN1 : Hid (Num wr (some ⟨g1, 0, none⟩) k1 p1 z1) := hN1
      clear hN1 hN2 hv
      go_wp2
      go_ret
      exact ⟨g1, k1, p1, z1, rfl, by omega, HN1.out, HV.out, hB⟩
    · have hm0 : (0 : Int) < m := by omega
      have hPn : P ≤ n := by
        have : 1 * P ≤ m * P := Nat.mul_le_mul_right P (by omega)
        omega
      have hq2 : (m : Int) / 2 = ((m / 2 : Nat) : Int) := by omega
      have hr2 : (m : Int) % 2 = ((m % 2 : Nat) : Int) := by omega
      have hmP' : m / 2 * (2 * P) ≤ n := by
        have h1 : m / 2 * 2 ≤ m := Nat.div_mul_le_self m 2
        have h2 : m / 2 * 2 * P ≤ m * P := Nat.mul_le_mul_right P h1
        rw [← Nat.mul_assoc]; omega
      have HPH : Hid (val z2 k2 ^ m = (if m % 2 = 1 then val z2 k2 else 1) * (val z2 k2 * val z2 k2) ^ (m / 2)) := pow_half _ _
      have tt := fun wr (hb : Below w.heap.size w wr) h1 h2 => times_val g1 0 k1 p1 g2 0 k2 p2 z1 z2 wr (by omega) (by omega) h1 h2
      have ts := fun wr (hb : Below w.heap.size w wr) h2 => times_val g2 0 k2 p2 g2 0 k2 p2 z2 z2 wr (by omega) (by omega) h2 h2
      generalize hq : m / 2 = q at *
      by_cases hodd : m % 2 = 1
      · rw [hodd] at hr2
        rw [if_pos hodd] at HPH
        have t1 := tt wr hB hN1 hN2
        by_cases hq0 : q = 0
        · subst hq0
          have hq00 : (m : Int) / 2 = 0 := hq2
          clear hq2
          go_wp2_with (go_at_call 32; refine t1.mono ?_; rintro e w1 ⟨g3, k3, p3, z3, rfl, hk3, hN3, hv3, hb1⟩; clear tt t1)
          have HV3 : Hid (val z3 k3 * val z2 k2 ^ 0 = b ^ n) := by
            show _ = _
            rw [hv3, ← hv.out, HPH.out]; simp
          have HN3 : Hid (Num w1 (some ⟨g3, 0, none⟩) k3 p3 z3) := hN3
          have HN2 : Hid (Num w1 (some ⟨g2, 0, none⟩) k2 p2 z2) := hN2.next hb1
          have hB1 := hB.trans (hb1.mono hB.size)
          clear hN1 hN2 hN3 hv hv3 ts
          go_roundw
          case rel => exact ⟨0, 2 * P, g3, k3, p3, g2, k2, p2, z3, z2, rfl, by omega, by omega, by omega, by omega, rfl, rfl, by omega, by omega, HN3.out, HN2.out, HV3, hB1⟩
          case measure => simp [intOf]; omega
        · have hq0' : (0 : Int) < q := by omega
          go_wp2_with (go_at_call 32; refine t1.mono ?_; rintro e w1 ⟨g3, k3, p3, z3, rfl, hk3, hN3, hv3, hb1⟩; clear tt t1)
          have hB1 := hB.trans (hb1.mono hB.size)
          have hN21 := hN2.next hb1
          have t2 := ts w1 hB1 hN21
          go_wp2_with (go_at_call 32; refine t2.mono ?_; rintro e w2 ⟨g4, k4, p4, z4, rfl, hk4, hN4, hv4, hb2⟩; clear ts t2)
          have HV3 : Hid (val z3 k3 * val z4 k4 ^ q = b ^ n) := by
            show _ = _
            rw [hv3, hv4, ← hv.out, HPH.out, Int.mul_assoc]
          have HN3 : Hid (Num w2 (some ⟨g3, 0, none⟩) k3 p3 z3) := hN3.next hb2
          have HN4 : Hid (Num w2 (some ⟨g4, 0, none⟩) k4 p4 z4) := hN4
          have hB2 := hB1.trans (hb2.mono hB1.size)
          clear hN1 hN2 hN3 hN21 hN4 hv hv3 hv4
          go_roundw
          case rel => exact ⟨q, 2 * P, g3, k3, p3, g4, k4, p4, z3, z4, rfl, by omega, by omega, by omega, by omega, rfl, rfl, by omega, by omega, HN3.out, HN4.out, HV3, hB2⟩
          case measure => simp [intOf]; omega
      · have h20 : m % 2 = 0 := by omega
        rw [h20] at hr2
        rw [if_neg hodd, Int.one_mul] at HPH
        have hq0' : (0 : Int) < q := by omega
        have t2 := ts wr hB hN2
        go_wp2_with (go_at_call 32; refine t2.mono ?_; rintro e w2 ⟨g4, k4, p4, z4, rfl, hk4, hN4, hv4, hb2⟩; clear ts tt t2)
        have HV3 : Hid (val z1 k1 * val z4 k4 ^ q = b ^ n) := by
          show _ = _
          rw [hv4, ← hv.out, HPH.out]
        have HN3 : Hid (Num w2 (some ⟨g1, 0, none⟩) k1 p1 z1) := hN1.next hb2
        have HN4 : Hid (Num w2 (some ⟨g4, 0, none⟩) k4 p4 z4) := hN4
        have hB2 := hB.trans (hb2.mono hB.size)
        clear hN1 hN2 hN4 hv hv4
        go_roundw
        case rel => exact ⟨q, 2 * P, g1, k1, p1, g4, k4, p4, z1, z4, rfl, by omega, by omega, by omega, by omega, rfl, rfl, by omega, by omega, HN3.out, HN4.out, HV3, hB2⟩
        case measure => simp [intOf]; omega
end Go.Proofs.YtckkibmehjlgaaaGreatDoor

namespace Go.Proofs.YtckkibmehjlgaaaGreatDoor

theorem pk_mean {f e : Nat} {l m : Int} {d : Dat} (h : Fm f e l m) (hd : isD f l m d) : ∃ S E F, S ≤ 1 ∧ E < 2 ^ e ∧ F < 2 ^ f ∧ pk f e l d = E * 2 ^ f + F + S * 2 ^ (f + e) ∧ mean f e l S E F = d := by
  have hp := pow_e h.e2 h.e15
  have hpc : ((2 : Int) ^ e) = ((2 ^ e : Nat) : Int) := by simp
  have hm := h.m
  rw [hpc] at hp hm
  have hh := half h.f2
  have hs1 : 2 ^ (f + 1) = 2 ^ f + 2 ^ f := by rw [Nat.pow_succ]; omega
  obtain ⟨c, s, g, x, k⟩ := d
  have hsg : ∃ S, S ≤ 1 ∧ decide (S = 1) = s ∧ ∀ X, (if s then X else 0) = S * X := by
    cases s
    · exact ⟨0, by decide, rfl, fun X => by simp⟩
    · exact ⟨1, by decide, rfl, fun X => by simp⟩
  obtain ⟨S, hS, hs, hsX⟩ := hsg
  rcases hd with ⟨hc, hg, hk, hx1, hx2, hx3⟩ | ⟨hc, hg, hx, hk⟩ | ⟨hc, hx, hk, hg⟩
  · dsimp only at hc hg hk hx1 hx2 hx3
    subst hc hg
    by_cases hf : 2 ^ f ≤ k
    · refine ⟨S, (x - l).toNat + 1, k - 2 ^ f, hS, by omega, by omega, ?_, ?_⟩
      · unfold pk
        simp only [if_true, hsX]
        rw [Nat.add_mul]; omega
      · unfold mean
        rw [if_neg (by omega), if_neg (by omega), hs, Nat.sub_add_cancel hf]
        congr 1
        omega
    · obtain rfl : x = l := by omega
      refine ⟨S, 0, k, hS, by omega, by omega, ?_, ?_⟩
      · unfold pk
        simp only [if_true, hsX, Int.sub_self, Int.toNat_zero]
      · unfold mean
        rw [if_neg (by omega), if_pos rfl, hs]
  · dsimp only at hc hg hx hk
    subst hc hg hx hk
    refine ⟨S, 2 ^ e - 1, 0, hS, by omega, by omega, ?_, ?_⟩
    · unfold pk
      simp only [show ¬ ((2 : Int) = 1) by decide, if_false, if_true, hsX]
    · unfold mean spc
      rw [if_pos rfl, if_pos rfl, hs]
  · dsimp only at hc hx hk hg
    subst hc hx
    cases g with
    | true =>
      have hk0 : k ≠ 0 := hg.resolve_right (by decide)
      refine ⟨S, 2 ^ e - 1, k, hS, by omega, by omega, ?_, ?_⟩
      · unfold pk
        simp only [show ¬ ((3 : Int) = 1) by decide, show ¬ ((3 : Int) = 2) by decide, if_false, if_true, hsX]
      · unfold mean spc
        rw [if_pos rfl, if_neg hk0, if_pos hk, hs]
    | false =>
      refine ⟨S, 2 ^ e - 1, k + 2 ^ (f - 1), hS, by omega, by omega, ?_, ?_⟩
      · unfold pk
        simp only [show ¬ ((3 : Int) = 1) by decide, show ¬ ((3 : Int) = 2) by decide, if_false, Bool.false_eq_true, hsX]
      · unfold mean spc
        rw [if_pos rfl, if_neg (by omega), if_neg (by omega), hs, Nat.add_sub_cancel]
theorem good_256 {n : Int} {B : Nat} (h : goodN n B) : B < 2 ^ 256 := by
  have := (bin_fm h.1).fe
  exact Nat.lt_of_lt_of_le h.2 (Nat.pow_le_pow_right (by decide) (by omega))
/-- the other way round -/
theorem back_pk {n : Int} {d : Dat} (h : pkE n d = 0) : goodN n (pkV n d) ∧ unD n (pkV n d) = d := by
  have hb : binN n := by
    unfold pkE at h
    by_cases hb : binN n
    · exact hb
    · rw [if_neg hb] at h; cases h
  have hi : isD (fN n) (leastN n) (mostN n) d := by
    unfold pkE at h
    rw [if_pos hb] at h
    by_cases hi : isD (fN n) (leastN n) (mostN n) d
    · exact hi
    · rw [if_neg hi] at h; cases h
  have hF := bin_fm hb
  obtain ⟨S, E, F, hS, hE, hFr, hB, hm⟩ := pk_mean hF hi
  have hv : pkV n d = E * 2 ^ fN n + F + S * 2 ^ (fN n + eN n) := by
    unfold pkV; rw [if_pos ⟨hb, hi⟩, hB]
  have hg : goodN n (pkV n d) := ⟨hb, by rw [hv]; exact (fields_of hS hE hFr).2.2.2⟩
  refine ⟨hg, ?_⟩
  unfold unD
  rw [if_pos hg, hv, unp_mean _ hS hE hFr, hm]
theorem pkV_256 (n : Int) (d : Dat) : pkV n d < 2 ^ 256 := by
  by_cases h : pkE n d = 0
  · exact good_256 (back_pk h).1
  · have : pkV n d = 0 := by
      unfold pkV pkE at *
      by_cases hb : binN n
      · rw [if_pos hb] at h
        by_cases hi : isD (fN n) (leastN n) (mostN n) d
        · rw [if_pos hi] at h; exact absurd rfl h
        · exact if_neg fun hh => hi hh.2
      · exact if_neg fun hh => hb hh.1
    rw [this]; decide
end Go.Proofs.YtckkibmehjlgaaaGreatDoor

namespace Go.Proofs.YtckkibmehjlgaaaGreatDoor
open Go.RowKit
theorem rless_tr (a a' : Option Addr) (n c n' c' : Nat) (x y : Nat → Int) (w : World) (hn : n < 4294967290) (hn' : n' < 4294967290) (h : Num w a n c x) (h' : Num w a' n' c' y) :
    Calls Tryz.prog 37 #[.slice a n c, .slice a' n' c'] w fun e w' => ∃ g k cap, e = .returned (.slice (some ⟨g, 0, none⟩) k cap) ∧ k ≤ max n n' ∧ Num w' (some ⟨g, 0, none⟩) k cap (difZ x y (max n n')) ∧ sizeL (difZ x y (max n n')) k = k ∧ Below w.heap.size w w' := by
  have hx := h.2.2.1
  have hy := h'.2.2.1
  have zx := h.2.2.2.1
  have zy := h'.2.2.2.1
  obtain ⟨M, hM⟩ : ∃ M, max n n' = M := ⟨_, rfl⟩
  have hMi : max (n : Int) n' = (M : Int) := by omega
  have hMb : M < 4294967292 := by omega
  have hmk := fun w => make_any (max (n : Int) n') M hMi (by omega) w
  have hfin : ∀ (ss : Array Value), ss.size = M → (∀ j h, ss[j]'h = Value.int .u64 (difW x y j)) → Num (w.alloc (.cells ss 22)) (some ⟨w.heap.size, 0, none⟩) M M (difZ x y (max n n')) := fun ss h1 h2 => num_of_block (by omega) (difZ_words x y _) (fun i hi => by unfold difZ; rw [if_neg (by omega)]) h1 (fun j hj => by rw [h2 j hj]; unfold difZ; rw [if_pos (by omega)])
  have hw1 := fun (i : Nat) (ss : Array Value) => word_any a n c i x (w.alloc (.cells ss 22)) (h.next (below1 w _))
  have hw2 := fun (i : Nat) (ss : Array Value) => word_any a' n' c' i y (w.alloc (.cells ss 22)) (h'.next (below1 w _))
  have HM : Hid (max n n' = M) := hM
  have HZ : Hid ((arrOf (fun _ => 0) M).size = M ∧ ∀ j h, (arrOf (fun _ => 0) M)[j]'h = Value.int .u64 0) := ⟨arrOf_size _ _, fun j h => arrOf_get _ _ _ _⟩
  clear h h' zx zy hM hMi
  generalize arrOf (fun _ => 0) M = zz at *
  go_enter Tryz.func37, Tryz.ntmps37
  go_wp2
  go_loopw [6, 7, 16, 19] (fun c u7 i u20 wr => ∃ (k : Nat) (ss : Array Value), k ≤ M ∧ i = .int .i64 k ∧ c = .int .u64 (borW x y k) ∧ ss.size = M ∧ (∀ j h, ss[j]'h = Value.int .u64 (if j < k then difW x y j else 0)) ∧ wr = w.alloc (.cells ss 22)) (fun _ _ i _ _ => M - (intOf i).toNat)
  case atStart => exact ⟨0, zz, Nat.zero_le _, rfl, rfl, HZ.out.1, fun j h => by rw [HZ.out.2 j h]; simp, rfl⟩
  case round =>
    obtain ⟨k, ss, hk, rfl, rfl, hsz, hss, rfl⟩ := hrel
    have hcar := borW_01 x y k
    by_cases h8 : k < M
    · have h8i : (k : Int) < M := by omega
      have h8s : k < ss.size := by omega
      have bx := hx k
      have b_y := hy k
      have hsk : ss[k]? = some (.int .u64 0) := by rw [Array.getElem?_eq_getElem h8s, hss k h8s, if_neg (by omega)]
      have hadd := fun w => sub64 (x k) (y k) (borW x y k) bx.1 b_y.1 (by omega) hcar.1 hcar.2 w
      have hwa := hw1 k ss
      have hwb := hw2 k ss
      have HR : Hid (∀ (i : Nat) (h : i < (ss.setIfInBounds k (.int .u64 (difW x y k))).size), (ss.setIfInBounds k (.int .u64 (difW x y k)))[i]'h = Value.int .u64 (if i < k + 1 then difW x y i else 0)) := set_next hss
      clear hss hw1 hw2 hfin hmk hx hy
      go_wp2_with (first | (go_at_call_of 51 (Value.slice a n c); refine hwa.mono ?_; rintro e w' ⟨rfl, rfl⟩) | (go_at_call_of 51 (Value.slice a' n' c'); refine hwb.mono ?_; rintro e w' ⟨rfl, rfl⟩))
      go_roundw
      case rel => exact ⟨k + 1, ss.setIfInBounds k (.int .u64 (difW x y k)), by omega, by go_num, rfl, by simp [hsz], HR.out, rfl⟩
      case measure => simp [intOf]; omega
    · obtain rfl : k = M := by omega
      have hss' : ∀ j h, ss[j]'h = Value.int .u64 (difW x y j) := by
        intro j h; rw [hss j h, if_pos (by omega)]
      have hT := trim_any _ _ _ _ _ (by omega) (hfin ss hsz hss')
      have hle := sizeL_le (difZ x y (max n n')) k
      clear hss hss' hw1 hw2 hfin hmk hx hy
      go_wp2_with (go_at_call 49; refine hT.mono ?_; rintro e w1 ⟨g, cap, rfl, hN, hB⟩)
      go_ret
      exact ⟨g, _, cap, rfl, Nat.le_trans hle (Nat.le_of_eq HM.out.symm), hN, sizeL_sizeL _ _, (below1 w _).trans (hB.mono (by simp))⟩

theorem rright_nv {K A : Nat} {v : Value} {w : World} (s : Nat) (hK : K < 1000) (hs : s ≤ 600) (h : NV K A v w) :
    Calls Tryz.prog 69 #[v, .int .i64 s] w fun e w' => ∃ v' b, e = .returned (.tuple #[v', .bool b]) ∧ NV K (A / 2 ^ s) v' w' ∧ Below w.heap.size w w' := by
  obtain ⟨g, k, cap, z, rfl, hk, hN, hv⟩ := h
  obtain ⟨q, hq⟩ : ∃ q : Nat, (s : Int) / 64 = q := ⟨((s : Int) / 64).toNat, by omega⟩
  obtain ⟨r, hr⟩ : ∃ r : Nat, (s : Int) % 64 = r := ⟨((s : Int) % 64).toNat, by omega⟩
  have hsn : s = 64 * q + r := by omega
  have hr6 : r < 64 := by omega
  have key : ∀ (w' : World) (g' k' cap' : Nat), k' ≤ k → Num w' (some ⟨g', 0, none⟩) k' cap' (shrW z q r) → NV K (A / 2 ^ s) (.slice (some ⟨g', 0, none⟩) k' cap') w' := fun w' g' k' cap' hk' hN' => by
    refine ⟨g', k', cap', _, rfl, by omega, hN', ?_⟩
    rw [← val_more hN'.2.2.2.1 k hk', hsn]
    exact shrW_val hN.2.2.1 hN.2.2.2.1 hr6 k (Nat.le_refl _) hv
  by_cases h0 : r = 0
  · subst h0
    refine (right_z g 0 k cap q s z w (by omega) (by omega) hq (by omega) (by omega) hN).mono ?_
    rintro e w' ⟨g', k', cap', b, rfl, hk', hN', hb⟩
    exact ⟨_, b, rfl, key w' g' k' cap' hk' hN', hb⟩
  · refine (right_p g 0 k cap q r s z w (by omega) (by omega) hr6 (by omega) hq hr (by omega) hN).mono ?_
    rintro e w' ⟨g', k', cap', b, rfl, hk', hN', hb⟩
    exact ⟨_, b, rfl, key w' g' k' cap' hk' hN', hb⟩
theorem rleft_nv {K A : Nat} {v : Value} {w : World} (s : Nat) (hK : K < 1000) (hs : s ≤ 600) (h : NV K A v w) :
    Calls Tryz.prog 33 #[v, .int .i64 s] w fun e w' => ∃ v', e = .returned v' ∧ NV (K + 11) (A * 2 ^ s) v' w' ∧ Below w.heap.size w w' := by
  obtain ⟨g, k, cap, z, rfl, hk, hN, hv⟩ := h
  obtain ⟨q, hq⟩ : ∃ q : Nat, (s : Int) / 64 = q := ⟨((s : Int) / 64).toNat, by omega⟩
  obtain ⟨r, hr⟩ : ∃ r : Nat, (s : Int) % 64 = r := ⟨((s : Int) % 64).toNat, by omega⟩
  have hsn : s = 64 * q + r := by omega
  have hr6 : r < 64 := by omega
  have key : ∀ (w' : World) (g' k' cap' : Nat), k' ≤ k + q + 1 → Num w' (some ⟨g', 0, none⟩) k' cap' (finL z q r) → NV (K + 11) (A * 2 ^ s) (.slice (some ⟨g', 0, none⟩) k' cap') w' := fun w' g' k' cap' hk' hN' => by
    refine ⟨g', k', cap', _, rfl, by omega, hN', ?_⟩
    rw [← val_more hN'.2.2.2.1 (k + q + 1) hk', finL_val hN.2.2.1 hN.2.2.2.1 q hr6, hv, hsn]
    simp
  by_cases h0 : r = 0
  · subst h0
    refine (left_z g 0 k cap q s z w (by omega) (by omega) hq (by omega) (by omega) hN).mono ?_
    rintro e w' ⟨g', k', cap', rfl, hk', hN', hb⟩
    exact ⟨_, rfl, key w' g' k' cap' hk' hN', hb⟩
  · refine (left_p g 0 k cap q r s z w (by omega) (by omega) hr6 (by omega) hq hr (by omega) hN).mono ?_
    rintro e w' ⟨g', k', cap', rfl, hk', hN', hb⟩
    exact ⟨_, rfl, key w' g' k' cap' hk' hN', hb⟩
theorem NT.nv {K V : Nat} {v : Value} {w : World} (h : NT K V v w) : NV K V v w := by
  obtain ⟨g, k, cap, z, h1, h2, h3, h4, _⟩ := h
  exact ⟨g, k, cap, z, h1, h2, h3, h4⟩
theorem rless_nt {K K' A B : Nat} {v v' : Value} {w : World} (hK : K < 1000) (hK' : K' < 1000) (h : NV K A v w) (h' : NV K' B v' w) (hv : B ≤ A) :
    Calls Tryz.prog 37 #[v, v'] w fun e w' => ∃ r, e = .returned r ∧ NT (K + K') (A - B) r w' ∧ Below w.heap.size w w' := by
  obtain ⟨g, k, c, z, rfl, hk, hN, hz⟩ := h
  obtain ⟨g2, k2, c2, z2, rfl, hk2, hN2, hz2⟩ := h'
  refine (rless_tr _ _ k c k2 c2 z z2 w (by omega) (by omega) hN hN2).mono fun e w' ⟨g3, k3, cap3, e1, hk3, hN3, ht, hB⟩ => ⟨_, e1, ⟨g3, k3, cap3, _, rfl, by omega, hN3, ?_, ht⟩, hB⟩
  have ex := val_more hN.2.2.2.1 (max k k2) (by omega)
  have ey := val_more hN2.2.2.2.1 (max k k2) (by omega)
  have e := dif_val hN.2.2.1 hN2.2.2.1 (max k k2)
  rw [borW_end hN.2.2.1 hN2.2.2.1 (by omega), ex, ey] at e
  rw [← val_more hN3.2.2.2.1 _ hk3, val_congr (y := difW z z2) (max k k2) fun i hi => by unfold difZ; rw [if_pos hi]]
  omega
theorem radd_nv {K K' A B : Nat} {v v' : Value} {w : World} (hK : K < 1000000) (hK' : K' < 1000000) (h : NV K A v w) (h' : NV K' B v' w) :
    Calls Tryz.prog 18 #[v, v'] w fun e w' => ∃ r, e = .returned r ∧ NV (K + K' + 1) (A + B) r w' ∧ Below w.heap.size w w' := by
  obtain ⟨g, k, c, z, rfl, hk, hN, hz⟩ := h
  obtain ⟨g2, k2, c2, z2, rfl, hk2, hN2, hz2⟩ := h'
  refine (radd_val _ _ k c k2 c2 z z2 w (by omega) (by omega) hN hN2).mono fun e w' ⟨g3, k3, cap3, z3, e1, hk3, hN3, hv3, hB⟩ => ⟨_, e1, ⟨g3, k3, cap3, z3, rfl, by omega, hN3, ?_⟩, hB⟩
  rw [hv3, hz, hz2]; omega
end Go.Proofs.YtckkibmehjlgaaaGreatDoor

namespace Go.Proofs.YtckkibmehjlgaaaGreatDoor
open Go.RowKit
attribute [local go_sem ↓] Go.wp_at_zero Go.wp_at_succ

theorem nv_low {k V : Nat} {z : Nat → Int} (hz : Words z) (h0 : ∀ i, k ≤ i → z i = 0) (hv : val z k = (V : Int)) : val z 4 = ((V % 2 ^ 256 : Nat) : Int) := by
  have h1 : val z (4 + k) = (V : Int) := by rw [val_more h0 (4 + k) (by omega), hv]
  rw [val_split z 4 k] at h1
  have hb := val_bd hz 4
  have e4 : (18446744073709551616 : Int) ^ 4 = ((2 ^ 256 : Nat) : Int) := by decide
  rw [e4] at h1 hb
  have h5 := congrArg (· % ((2 ^ 256 : Nat) : Int)) h1
  simp only [Int.add_mul_emod_self_right, Int.emod_eq_of_lt hb.1 hb.2] at h5
  rw [h5]
  rfl
set_option maxHeartbeats 1000000 in
theorem bits_num (g k cap : Nat) (z : Nat → Int) (w : World) (h : Num w (some ⟨g, 0, none⟩) k cap z) :
    Calls Tryz.prog 47 #[.slice (some ⟨g, 0, none⟩) k cap] w fun e w' => e = .returned (.agg (arrOf z 4)) ∧ Below w.heap.size w w' := by
  have hw := fun (i : Nat) (o1 o2 : Obj) => word_any (some ⟨g, 0, none⟩) k cap i z ((w.alloc o1).alloc o2) ((h.next (below1 w _)).next (below1 _ _))
  clear h
  go_enter Tryz.func47, Tryz.ntmps47
  go_wp2
  go_loopw [4, 5] (fun u4 i wr => ∃ (j : Nat) (ss : Array Value), j ≤ 4 ∧ i = .int .i64 j ∧ ss.size = 4 ∧ (∀ q h, ss[q]'h = Value.int .u64 (if q < j then z q else 0)) ∧ wr = (w.alloc (.cells #[.int .u64 0, .int .u64 0, .int .u64 0, .int .u64 0] 24)).alloc (.cells ss 24)) (fun _ i _ => 4 - (intOf i).toNat)
  case atStart => exact ⟨0, _, Nat.zero_le _, rfl, rfl, by intro q h; have h' : q < 4 := h; match q, h' with | 0, _ => rfl | 1, _ => rfl | 2, _ => rfl | 3, _ => rfl, rfl⟩
  case round =>
    obtain ⟨j, ss, hj, rfl, hsz, hss, rfl⟩ := hrel
    by_cases h4 : j < 4
    · have h4i : (j : Int) < 4 := by omega
      have h4s : j < ss.size := by omega
      have hsk : ss[j]? = some (.int .u64 0) := by rw [Array.getElem?_eq_getElem h4s, hss j h4s, if_neg (by omega)]
      have HR : Hid (∀ (i : Nat) (h : i < (ss.setIfInBounds j (.int .u64 (z j))).size), (ss.setIfInBounds j (.int .u64 (z j)))[i]'h = Value.int .u64 (if i < j + 1 then z i else 0)) := set_next hss
      have hwj := hw j (.cells #[.int .u64 0, .int .u64 0, .int .u64 0, .int .u64 0] 24) (.cells ss 24)
      clear hss hw
      go_wp2_with (go_at_call 51; refine hwj.mono ?_; rintro e w' ⟨rfl, rfl⟩)
      go_roundw
      case rel => exact ⟨j + 1, ss.setIfInBounds j (.int .u64 (z j)), by omega, by go_num, by simp [hsz], HR.out, rfl⟩
      case measure => simp [intOf]; omega
    · obtain rfl : j = 4 := by omega
      have hss' : ∀ q h, ss[q]'h = Value.int .u64 (z q) := by
        intro q h; rw [hss q h, if_pos (by omega)]
      clear hss hw
      go_wp2
      exact bodyPost_ret (v := .agg (arrOf z 4)) (by simp [results, Tryz.results47, go_sem]; rfl) rfl ⟨rfl, ((Below.refl _ _).alloc (Nat.le_refl _) _).alloc (by simp) _⟩
theorem bits_nv {K V : Nat} {v : Value} {w : World} (h : NV K V v w) :
    Calls Tryz.prog 47 #[v] w fun e w' => e = .returned (A4 V) ∧ Below w.heap.size w w' := by
  obtain ⟨g, k, cap, z, rfl, hk, hN, hv⟩ := h
  refine (bits_num g k cap z w hN).mono ?_
  rintro e w' ⟨rfl, hb⟩
  refine ⟨?_, hb⟩
  rw [arr_A4 hN.2.2.1 (nv_low hN.2.2.1 hN.2.2.2.1 hv)]
set_option maxHeartbeats 1000000 in
theorem number_nv {K V : Nat} {v : Value} {w : World} (h : NV K V v w) (hK : K < 1000) (hV : V < 9223372036854775808) :
    Calls Tryz.prog 35 #[v] w fun e w' => e = .returned (.int .i64 V) ∧ w' = w := by
  obtain ⟨g, k, cap, z, rfl, hk, hN, hv⟩ := h
  obtain ⟨h1, h2, h3, h4, h5⟩ := hN
  rcases h5 with ⟨h5, _⟩ | ⟨b, off, e, hb, hc⟩
  · cases h5
  · cases e
    rcases Nat.eq_zero_or_pos k with hk0 | hk0
    · subst hk0
      have : V = 0 := by have : val z 0 = 0 := rfl
                         omega
      subst this
      go_enter Tryz.func35, Tryz.ntmps35
      go_wp2
      go_ret
      exact ⟨rfl, rfl⟩
    · have hc0 := hc 0 hk0
      have hz0 := h3 0
      have e0 : z 0 = (V : Int) := by
        have hl := nv_low h3 h4 hv
        obtain ⟨j, rfl⟩ : ∃ j, k = 1 + j := ⟨k - 1, by omega⟩
        have hs := val_split z 1 j
        have hb2 := val_bd (segW_words h3 1 j) j
        have h10 : val z 1 = z 0 := by show val z 0 + z 0 * 18446744073709551616 ^ 0 = z 0; simp [val]
        rw [hv, h10] at hs
        simp only [Int.pow_one] at hs
        have hm : 0 ≤ val (segW z 1 j) j := hb2.1
        by_cases hp : 0 < val (segW z 1 j) j
        · exfalso; omega
        · have : val (segW z 1 j) j = 0 := by omega
          rw [this] at hs; omega
      have hk1 : ¬ ((k : Int) = 0) := by omega
      rw [e0] at hc0
      simp only [Nat.add_zero] at hc0
      have hkb : (k == 0) = false := by simp; omega
      have hki : (0 : Int) < k := by omega
      clear hc h3 h4 hv e0 hz0
      go_enter Tryz.func35, Tryz.ntmps35
      go_wp2
      go_ret
      exact ⟨rfl, rfl⟩
theorem box_nv {w0 w : World} {B : Nat} {t : TypeId} (hB : B < 2 ^ 256) (hb : Below (w0.alloc (.cells #[.int .u64 (W4 B 0), .int .u64 (W4 B 1), .int .u64 (W4 B 2), .int .u64 (W4 B 3)] t)).heap.size (w0.alloc (.cells #[.int .u64 (W4 B 0), .int .u64 (W4 B 1), .int .u64 (W4 B 2), .int .u64 (W4 B 3)] t)) w) :
    NV 4 B (.slice (some ⟨w0.heap.size, 0, none⟩) 4 4) w :=
  ⟨_, 4, 4, _, rfl, Nat.le_refl _, box_num (W4_words B) (A4_get B) hb, by
    rw [val_congr (x := lowW (W4 B) 4) (y := W4 B) 4 (fun i hi => lowW_lt hi), W4_val4 hB]⟩
set_option maxHeartbeats 1000000 in
theorem field_any (B at_ n : Nat) (w : World) (hB : B < 2 ^ 256) (ha : at_ ≤ 600) (hn : n ≤ 600) :
    Calls Tryz.prog 46 #[A4 B, .int .i64 at_, .int .i64 n] w fun e w' => ∃ r, e = .returned r ∧ NT 19 (B / 2 ^ at_ % 2 ^ n) r w' ∧ Below w.heap.size w w' := by
  have hbx := box_nv (w0 := w) (B := B) (t := 24) hB (Below.refl _ _)
  go_enter Tryz.func46, Tryz.ntmps46
  go_wp2_with (first
    | (have := hA2; go_at_call 33; refine (rleft_nv n (by decide) hn hh).mono ?_; rintro e w3 ⟨v3, rfl, hl, hb3⟩; replace hx := hx.next hb3; have hA3 := bnext hA2 hb3)
    | (have := hA1; go_at_call 69; refine (rright_nv n (by decide) hn hx).mono ?_; rintro e w2 ⟨v2, b2, rfl, hh, hb2⟩; replace hx := hx.next hb2; have hA2 := bnext hA1 hb2)
    | (go_at_call 69; refine (rright_nv at_ (by decide) ha hbx).mono ?_; rintro e w1 ⟨v1, b1, rfl, hx, hb1⟩; have hA1 := bnext (w0 := w) bgo hb1)
    | (go_at_call 37; refine (rless_nt (by decide) (by decide) hx hl (Nat.div_mul_le_self _ _)).mono ?_; rintro e w4 ⟨v4, rfl, hr, hb4⟩; have hA4 := bnext hA3 hb4))
  go_ret
  refine ⟨_, rfl, ?_, hA4⟩
  rw [show B / 2 ^ at_ % 2 ^ n = B / 2 ^ at_ - B / 2 ^ at_ / 2 ^ n * 2 ^ n by have := Nat.div_add_mod' (B / 2 ^ at_) (2 ^ n); omega]
  exact hr
end Go.Proofs.YtckkibmehjlgaaaGreatDoor

namespace Go.Proofs.YtckkibmehjlgaaaGreatDoor
open Go.RowKit

theorem r_zero {n : Int} (d : Int) (s : Bool) (D : Nat) (x : Int) (hb : binN n) : rdV n d s 0 D x = sgN n s ∧ rdF n d s 0 D x = 0 := by
  have hF := bin_fm hb
  have hp := pow_e hF.e2 hF.e15
  have hm := hF.m
  have hz : isD (fN n) (leastN n) (mostN n) ⟨1, s, false, leastN n, 0⟩ := Or.inl ⟨rfl, rfl, Nat.two_pow_pos _, Int.le_refl _, by show leastN n ≤ mostN n; omega, Or.inr rfl⟩
  unfold rdV rdF
  rw [if_pos rfl, if_pos rfl, pk_fin hb hz]
  simp
theorem tp_lt {n : Int} (hb : binN n) : tpN n < 2 ^ (fN n + eN n) := by
  unfold tpN
  rw [Nat.pow_add, Nat.mul_comm]
  have hE : 0 < 2 ^ eN n := Nat.two_pow_pos _
  exact Nat.mul_lt_mul_of_pos_left (by omega) (Nat.two_pow_pos _)
theorem cap_le (T : Nat) (i : Bool) (p : Nat) : capV T i p ≤ T := by
  unfold capV; split
  · split <;> omega
  · omega
end Go.Proofs.YtckkibmehjlgaaaGreatDoor

namespace Go.Proofs.YtckkibmehjlgaaaGreatDoor
open Go.RowKit

def othD (d : Int) : Int := if d = 3 ∨ d = 4 then 7 - d else d
theorem in_turn (d : Int) : inB (othD d) true = inB d false := by
  unfold othD inB
  by_cases h3 : d = 3
  · subst h3; rfl
  · by_cases h4 : d = 4
    · subst h4; rfl
    · simp only [h3, h4, or_self, if_false]
theorem fa_turn (d : Int) (o : Bool) (R D : Nat) : faB (othD d) true o R D = faB d false o R D := by
  unfold faB
  rw [in_turn]
  unfold othD
  by_cases h3 : d = 3
  · subst h3; rfl
  · by_cases h4 : d = 4
    · subst h4; rfl
    · simp only [h3, h4, or_self, if_false]
theorem nrF_turn (d : Int) (N D : Nat) (k : Int) : nrF (othD d) true N D k = nrF d false N D k := fa_turn d _ _ _
theorem rC_turn (n d : Int) (N D : Nat) (x : Int) : rC n (othD d) true N D x = rC n d false N D x := by unfold rC nrC; rw [nrF_turn]
theorem rP_turn (n d : Int) (N D : Nat) (x : Int) : rP n (othD d) true N D x = rP n d false N D x := by unfold rP; rw [rC_turn]
theorem rd_turn {n : Int} (d : Int) (N : Nat) {D : Nat} (x : Int) (hb : binN n) (hD : D ≠ 0) : rdV n (othD d) true N D x = rdV n d false N D x + 2 ^ (fN n + eN n) ∧ rdF n (othD d) true N D x = rdF n d false N D x ∧ rdV n d false N D x < 2 ^ (fN n + eN n) := by
  by_cases hN : N = 0
  · subst hN
    rw [(r_zero (othD d) true D x hb).1, (r_zero (othD d) true D x hb).2, (r_zero d false D x hb).1, (r_zero d false D x hb).2]
    have := Nat.two_pow_pos (fN n + eN n)
    unfold sgN
    simp only [if_true, Bool.false_eq_true, if_false]
    exact ⟨by omega, trivial, by omega⟩
  · rw [r_pat (othD d) true x hb hN hD, r_pat d false x hb hN hD, r_flag (othD d) true x hb hN hD, r_flag d false x hb hN hD, rP_turn, in_turn]
    unfold sgN
    simp only [if_true, Bool.false_eq_true, if_false, Nat.add_zero]
    exact ⟨trivial, trivial, Nat.lt_of_le_of_lt (cap_le _ _ _) (tp_lt hb)⟩
end Go.Proofs.YtckkibmehjlgaaaGreatDoor

namespace Go.Proofs.YtckkibmehjlgaaaGreatDoor
open Go.RowKit

theorem fa_mono {d : Int} {s o : Bool} {R1 R2 D : Nat} (h : R1 ≤ R2) (hf : faB d s o R1 D = true) : faB d s o R2 D = true := by
  unfold faB at hf ⊢
  by_cases h1 : R1 = 0
  · rw [if_pos h1] at hf; cases hf
  · rw [if_neg h1] at hf
    rw [if_neg (by omega)]
    by_cases h0 : d = 0
    · rw [if_pos h0] at hf ⊢
      simp only [Bool.or_eq_true, Bool.and_eq_true, decide_eq_true_eq] at hf ⊢
      rcases hf with hf | ⟨hf, ho⟩
      · left; omega
      · by_cases e : R2 + R2 = D
        · exact Or.inr ⟨e, ho⟩
        · left; omega
    · rw [if_neg h0] at hf ⊢
      by_cases h2 : d = 1
      · rw [if_pos h2] at hf ⊢
        simp only [decide_eq_true_eq] at hf ⊢
        omega
      · rw [if_neg h2] at hf ⊢; exact hf
theorem nrC_mono {d : Int} {s : Bool} {N1 N2 D : Nat} {k : Int} (h : N1 ≤ N2) (hD : D ≠ 0) : nrC d s N1 D k ≤ nrC d s N2 D k := by
  have hB : 0 < D * 2 ^ (-k).toNat := Nat.mul_pos (Nat.pos_of_ne_zero hD) (Nat.two_pow_pos _)
  have hA : N1 * 2 ^ k.toNat ≤ N2 * 2 ^ k.toNat := Nat.mul_le_mul_right _ h
  unfold nrC nrF nrQ nrR
  generalize N1 * 2 ^ k.toNat = A1 at *
  generalize N2 * 2 ^ k.toNat = A2 at *
  generalize D * 2 ^ (-k).toNat = M at *
  have hq : A1 / M ≤ A2 / M := Nat.div_le_div_right hA
  rcases Nat.lt_or_ge (A1 / M) (A2 / M) with h1 | h1
  · split <;> split <;> omega
  · have e : A1 / M = A2 / M := by omega
    have d1 := Nat.div_add_mod A1 M
    have d2 := Nat.div_add_mod A2 M
    rw [e] at d1 ⊢
    have hr : A1 % M ≤ A2 % M := by omega
    by_cases hf : faB d s (decide (A2 / M % 2 = 1)) (A1 % M) M = true
    · rw [if_pos hf, if_pos (fa_mono hr hf)]; exact Nat.le_refl _
    · rw [if_neg hf]; split <;> omega
theorem ld_mono {N1 N2 D : Nat} (h : N1 ≤ N2) (h1 : N1 ≠ 0) (hD : D ≠ 0) : ld N1 D ≤ ld N2 D := by
  have h2 : N2 ≠ 0 := by omega
  obtain ⟨K, hK⟩ : ∃ K : Nat, K = bl D + 2 + bl N1 + bl N2 := ⟨_, rfl⟩
  have b1 := (ld_bd h1 hD K (by omega)).1
  have b2 := (ld_bd h2 hD K (by omega)).2
  have hc : N1 * 2 ^ K ≤ N2 * 2 ^ K := Nat.mul_le_mul_right _ h
  have hlt : D * 2 ^ ((K : Int) + ld N1 D).toNat < D * 2 ^ ((K : Int) + ld N2 D + 1).toNat := by omega
  have := (Nat.pow_lt_pow_iff_right (by decide : 1 < 2)).1 (Nat.lt_of_mul_lt_mul_left hlt)
  have hl1 : (bl N1 : Int) - bl D - 1 ≤ ld N1 D := by unfold ld; dsimp only; split <;> omega
  have hl2 : (bl N2 : Int) - bl D - 1 ≤ ld N2 D := by unfold ld; dsimp only; split <;> omega
  omega
/-- what lies below a quarter -/
def tnB (d : Int) (s : Bool) : Bool := if d = 0 ∨ d = 1 then false else inB d s
theorem nr_tiny {d : Int} {s : Bool} {N D : Nat} {k : Int} (hN : N ≠ 0) (hD : D ≠ 0) (h : ld N D + k ≤ -2) : nrQ N D k = 0 ∧ nrF d s N D k = tnB d s ∧ nrR N D k ≠ 0 := by
  have key : N * 2 * 2 ^ k.toNat < D * 2 ^ (-k).toNat := by
    obtain ⟨K, hK⟩ : ∃ K : Nat, K = bl D + 1 + k.natAbs := ⟨_, rfl⟩
    obtain ⟨K1, hK1⟩ : ∃ K1 : Nat, (K1 : Int) = (K : Int) + k := ⟨((K : Int) + k).toNat, by omega⟩
    have key := cmp_sc (N * 2) D k K (by omega)
    rw [show ((K : Int) + k).toNat = K1 by omega] at key
    have hb := (ld_bd hN hD K1 (by omega)).2
    have hl1 : -(bl D : Int) ≤ ld N D := by
      have := (bl_bd hN).2.2
      unfold ld; dsimp only; split <;> omega
    refine key.2 ?_
    have h2 : D * 2 ^ (((K1 : Int) + ld N D + 1).toNat + 1) ≤ D * 2 ^ K := Nat.mul_le_mul_left _ (Nat.pow_le_pow_right (by decide) (by omega))
    rw [Nat.pow_succ, ← Nat.mul_assoc] at h2
    rw [Nat.mul_right_comm]
    omega
  have hA : N * 2 ^ k.toNat ≠ 0 := Nat.mul_ne_zero hN (Nat.pos_iff_ne_zero.1 (Nat.two_pow_pos _))
  rw [Nat.mul_right_comm] at key
  unfold nrF nrQ nrR
  generalize N * 2 ^ k.toNat = A at *
  generalize D * 2 ^ (-k).toNat = M at *
  have e1 : A / M = 0 := Nat.div_eq_of_lt (by omega)
  have e2 : A % M = A := Nat.mod_eq_of_lt (by omega)
  rw [e1, e2]
  refine ⟨rfl, ?_, hA⟩
  unfold faB tnB
  rw [if_neg hA]
  by_cases h0 : d = 0
  · rw [if_pos h0, if_pos (Or.inl h0), decide_eq_false (by omega), decide_eq_false (by omega)]; rfl
  · rw [if_neg h0]
    by_cases h1 : d = 1
    · rw [if_pos h1, if_pos (Or.inr h1), decide_eq_false (by omega)]
    · rw [if_neg h1, if_neg (by omega)]
theorem cap_top (T : Nat) (i : Bool) (p q : Nat) (h : T ≤ q) : capV T i p ≤ capV T i q := by
  unfold capV
  rw [if_pos h]
  split
  · exact Nat.le_refl _
  · split <;> omega
theorem cap_mono (T : Nat) (i : Bool) {p q : Nat} (h : p ≤ q) : capV T i p ≤ capV T i q := by
  by_cases hq : T ≤ q
  · exact cap_top T i p q hq
  · unfold capV; rw [if_neg hq, if_neg (by omega)]; exact h
theorem rd_mono {n : Int} (d : Int) (N1 N2 : Nat) {D : Nat} (x : Int) (hb : binN n) (hD : D ≠ 0) (h : N1 ≤ N2) : rdV n d false N1 D x ≤ rdV n d false N2 D x := by
  by_cases h1 : N1 = 0
  · subst h1
    rw [(r_zero d false D x hb).1]
    unfold sgN; simp
  · have h2 : N2 ≠ 0 := by omega
    rw [r_pat d false x hb h1 hD, r_pat d false x hb h2 hD]
    refine Nat.add_le_add_right ?_ _
    have hL := ld_mono h h1 hD
    obtain ⟨a1, a2, a3, _⟩ := r_coef d false x hb h1 hD
    obtain ⟨b1, b2, b3, _⟩ := r_coef d false x hb h2 hD
    have hF := bin_fm hb
    have hp := pow_e hF.e2 hF.e15
    have hm := hF.m
    have hpc : ((2 : Int) ^ eN n) = ((2 ^ eN n : Nat) : Int) := by simp
    rw [hpc] at hp hm
    have hq : rQ n N1 D x ≤ rQ n N2 D x := by unfold rQ rX wiZ; omega
    have hFp : 0 < 2 ^ fN n := Nat.two_pow_pos _
    rw [show 2 ^ (fN n + 1) = 2 ^ fN n + 2 ^ fN n by rw [Nat.pow_succ]; omega] at a2 b2
    by_cases htop : mostN n < rQ n N2 D x
    · refine cap_top _ _ _ _ ?_
      have hC := b3 (by omega)
      unfold tpN rP
      have : (2 ^ eN n - 1) * 2 ^ fN n ≤ ((rQ n N2 D x - leastN n).toNat + 1) * 2 ^ fN n := Nat.mul_le_mul_right _ (by omega)
      rw [Nat.add_mul] at this
      omega
    · refine cap_mono _ _ ?_
      unfold rP
      rcases Int.lt_or_le (rQ n N1 D x) (rQ n N2 D x) with hlt | hge
      · have hC := b3 (by omega)
        have : ((rQ n N1 D x - leastN n).toNat + 1) * 2 ^ fN n ≤ (rQ n N2 D x - leastN n).toNat * 2 ^ fN n := Nat.mul_le_mul_right _ (by omega)
        rw [Nat.add_mul] at this
        omega
      · have he : rQ n N1 D x = rQ n N2 D x := by omega
        rw [he]
        refine Nat.add_le_add_left ?_ _
        by_cases hX : rX n N1 D x = rX n N2 D x
        · unfold rC; rw [he, hX]; exact nrC_mono h hD
        · -- the first one lies below a quarter of the unit
          have hlow : ld N1 D + rX n N1 D x = leastN n - 2 := by
            unfold rX wiZ at hX ⊢
            unfold rQ rX wiZ at htop
            omega
          have hQ1 : rQ n N1 D x = leastN n := by unfold rQ; omega
          have t1 := nr_tiny (d := d) (s := false) h1 hD (k := rX n N1 D x - rQ n N1 D x) (by omega)
          have e1 : rC n d false N1 D x = if tnB d false then 1 else 0 := by
            unfold rC nrC; rw [t1.1, t1.2.1]
          rw [e1]
          by_cases ht : tnB d false = true
          · rw [if_pos ht]
            have hin : inB d false = true ∧ d ≠ 0 ∧ d ≠ 1 := by
              unfold tnB at ht
              split at ht
              · cases ht
              · rename_i hh; exact ⟨ht, by omega, by omega⟩
            unfold rC nrC
            by_cases hz : nrQ N2 D (rX n N2 D x - rQ n N2 D x) = 0
            · have hr : nrR N2 D (rX n N2 D x - rQ n N2 D x) ≠ 0 := by
                intro hr
                have := Nat.div_add_mod (N2 * 2 ^ (rX n N2 D x - rQ n N2 D x).toNat) (D * 2 ^ (-(rX n N2 D x - rQ n N2 D x)).toNat)
                unfold nrQ at hz
                unfold nrR at hr
                rw [hz, hr] at this
                have h3 : N2 * 2 ^ (rX n N2 D x - rQ n N2 D x).toNat ≠ 0 := Nat.mul_ne_zero h2 (Nat.pos_iff_ne_zero.1 (Nat.two_pow_pos _))
                simp at this
                omega
              have : nrF d false N2 D (rX n N2 D x - rQ n N2 D x) = true := by
                unfold nrF faB
                rw [if_neg hr, if_neg hin.2.1, if_neg hin.2.2, hin.1]
              rw [if_pos this]; omega
            · split <;> omega
          · rw [if_neg ht]; omega
end Go.Proofs.YtckkibmehjlgaaaGreatDoor

namespace Go.Proofs.YtckkibmehjlgaaaGreatDoor
open Go.RowKit

set_option maxHeartbeats 1000000 in
theorem radd_tr (a a' : Option Addr) (n c n' c' : Nat) (x y : Nat → Int) (w : World) (hn : n < 4294967290) (hn' : n' < 4294967290) (h : Num w a n c x) (h' : Num w a' n' c' y) :
    Calls Tryz.prog 18 #[.slice a n c, .slice a' n' c'] w fun e w' => ∃ g k cap, e = .returned (.slice (some ⟨g, 0, none⟩) k cap) ∧ k ≤ max n n' + 1 ∧ Num w' (some ⟨g, 0, none⟩) k cap (sumW x y) ∧ Below w.heap.size w w' ∧ sizeL (sumW x y) k = k := by
  have hx := h.2.2.1
  have hy := h'.2.2.1
  have zx := h.2.2.2.1
  have zy := h'.2.2.2.1
  obtain ⟨M, hM⟩ : ∃ M, max n n' + 1 = M := ⟨_, rfl⟩
  have hMi : max (n : Int) n' + 1 = (M : Int) := by omega
  have hMb : M < 4294967292 := by omega
  have hmk := fun w => make_any (max (n : Int) n' + 1) M hMi (by omega) w
  have hfin : ∀ (ss : Array Value), ss.size = M → (∀ j h, ss[j]'h = Value.int .u64 (sumW x y j)) → Num (w.alloc (.cells ss 22)) (some ⟨w.heap.size, 0, none⟩) M M (sumW x y) := fun ss h1 h2 => num_of_block (by omega) (sumW_words x y) (fun i hi => sumW_zero (n := max n n') hx hy (fun i hi => zx i (by omega)) (fun i hi => zy i (by omega)) i (by omega)) h1 (fun j hj => by rw [h2 j hj])
  have hw1 := fun (i : Nat) (ss : Array Value) => word_any a n c i x (w.alloc (.cells ss 22)) (h.next (below1 w _))
  have hw2 := fun (i : Nat) (ss : Array Value) => word_any a' n' c' i y (w.alloc (.cells ss 22)) (h'.next (below1 w _))
  have HM : Hid (max n n' + 1 = M) := hM
  have HZ : Hid ((arrOf (fun _ => 0) M).size = M ∧ ∀ j h, (arrOf (fun _ => 0) M)[j]'h = Value.int .u64 0) := ⟨arrOf_size _ _, fun j h => arrOf_get _ _ _ _⟩
  clear h h' zx zy hM hMi
  generalize arrOf (fun _ => 0) M = zz at *
  go_enter Tryz.func18, Tryz.ntmps18
  go_wp2
  go_loopw [6, 7, 17, 20] (fun c u7 i u20 wr => ∃ (k : Nat) (ss : Array Value), k ≤ M ∧ i = .int .i64 k ∧ c = .int .u64 (carryW x y k) ∧ ss.size = M ∧ (∀ j h, ss[j]'h = Value.int .u64 (if j < k then sumW x y j else 0)) ∧ wr = w.alloc (.cells ss 22)) (fun _ _ i _ _ => M - (intOf i).toNat)
  case atStart => exact ⟨0, zz, Nat.zero_le _, rfl, rfl, HZ.out.1, fun j h => by rw [HZ.out.2 j h]; simp, rfl⟩
  case round =>
    obtain ⟨k, ss, hk, rfl, rfl, hsz, hss, rfl⟩ := hrel
    have hcar := carryW_01 hx hy k
    by_cases h8 : k < M
    · have h8i : (k : Int) < M := by omega
      have h8s : k < ss.size := by omega
      have bx := hx k
      have b_y := hy k
      have hsk : ss[k]? = some (.int .u64 0) := by rw [Array.getElem?_eq_getElem h8s, hss k h8s, if_neg (by omega)]
      have hadd := fun w => add64 (x k) (y k) (carryW x y k) bx.1 b_y.1 hcar.1 hcar.2 w
      have hwa := hw1 k ss
      have hwb := hw2 k ss
      have HR : Hid (∀ (i : Nat) (h : i < (ss.setIfInBounds k (.int .u64 (sumW x y k))).size), (ss.setIfInBounds k (.int .u64 (sumW x y k)))[i]'h = Value.int .u64 (if i < k + 1 then sumW x y i else 0)) := set_next hss
      clear hss hw1 hw2 hfin hmk hx hy
      go_wp2_with (first | (go_at_call_of 51 (Value.slice a n c); refine hwa.mono ?_; rintro e w' ⟨rfl, rfl⟩) | (go_at_call_of 51 (Value.slice a' n' c'); refine hwb.mono ?_; rintro e w' ⟨rfl, rfl⟩))
      go_roundw
      case rel => exact ⟨k + 1, ss.setIfInBounds k (.int .u64 (sumW x y k)), by omega, by go_num, rfl, by simp [hsz], HR.out, rfl⟩
      case measure => simp [intOf]; omega
    · obtain rfl : k = M := by omega
      have hss' : ∀ j h, ss[j]'h = Value.int .u64 (sumW x y j) := by
        intro j h; rw [hss j h, if_pos (by omega)]
      have hT := trim_any _ _ _ _ _ (by omega) (hfin ss hsz hss')
      have hle := sizeL_le (sumW x y) k
      clear hss hss' hw1 hw2 hfin hmk hx hy
      go_wp2_with (go_at_call 49; refine hT.mono ?_; rintro e w1 ⟨g, cap, rfl, hN, hB⟩)
      go_ret
      exact ⟨g, _, cap, rfl, Nat.le_trans hle (Nat.le_of_eq HM.out.symm), hN, (below1 w _).trans (hB.mono (by simp)), sizeL_sizeL _ _⟩

theorem radd_vt (a a' : Option Addr) (n c n' c' : Nat) (x y : Nat → Int) (w : World) (hn : n < 4000000000) (hn' : n' < 4000000000) (h : Num w a n c x) (h' : Num w a' n' c' y) :
    Calls Tryz.prog 18 #[.slice a n c, .slice a' n' c'] w fun e w' => ∃ g k cap z, e = .returned (.slice (some ⟨g, 0, none⟩) k cap) ∧ k ≤ max n n' + 1 ∧ Num w' (some ⟨g, 0, none⟩) k cap z ∧ val z k = val x n + val y n' ∧ Below w.heap.size w w' ∧ sizeL z k = k := by
  refine (radd_tr a a' n c n' c' x y w (by omega) (by omega) h h').mono fun e w' ⟨g, k, cap, e1, hk, hN, hB, ht⟩ => ⟨g, k, cap, _, e1, hk, hN, ?_, hB, ht⟩
  have e := sum_val (x := x) (y := y) (max n n' + 1)
  rw [sum_end h.2.2.1 h'.2.2.1 h.2.2.2.1 h'.2.2.2.1 (by omega) (by omega), val_more h.2.2.2.1 _ (by omega), val_more h'.2.2.2.1 _ (by omega), val_more hN.2.2.2.1 _ hk] at e
  omega
end Go.Proofs.YtckkibmehjlgaaaGreatDoor

namespace Go.Proofs.YtckkibmehjlgaaaGreatDoor
open Go.RowKit

theorem num_empty (w : World) : Num (w.alloc (.cells #[] 22)) (some ⟨w.heap.size, 0, none⟩) 0 0 (fun _ => 0) :=
  ⟨Nat.le_refl _, by unfold maxLen; omega, fun _ => (by decide : (0 : Int) ≤ 0 ∧ (0 : Int) ≤ 18446744073709551615), fun _ _ => rfl, Or.inr ⟨_, 0, rfl, by simp, fun i hi => by omega⟩⟩
set_option maxRecDepth 20000 in
set_option maxHeartbeats 2000000 in
theorem number_any (s : ByteArray) (w : World) (hd : isDigB s = true) (hl : s.size ≤ 12000) :
    Calls Tryz.prog 19 #[.string s] w fun e w' => ∃ g k cap z, e = .returned (.slice (some ⟨g, 0, none⟩) k cap) ∧ k ≤ 36000 ∧ Num w' (some ⟨g, 0, none⟩) k cap z ∧ val z k = numV s s.size ∧ Below w.heap.size w w' ∧ sizeL z k = k := by
  have hl' : (s.size : Int) ≤ 12000 := by omega
  have hdig : ∀ k, k < s.size → 48 ≤ sb s k ∧ sb s k ≤ 57 := by
    unfold isDigB at hd; simp at hd; exact digB_at s.size hd.1
  have HDG : Hid (∀ k, k < s.size → 48 ≤ sb s k ∧ sb s k ≤ 57) := hdig
  have HN0 := num_empty w
  have HB0 := below1 w (.cells #[] 22)
  clear hd hdig
  go_enter Tryz.func19, Tryz.ntmps19
  go_wp2
  generalize w.alloc (.cells #[] 22) = wA at *
  go_loopw [3, 4, 5, 6] (fun t3 t4 u5 u6 wr => ∃ (p n c g : Nat) (z : Nat → Int), p ≤ s.size ∧ t3 = .slice (some ⟨g, 0, none⟩) n c ∧ t4 = .int .i64 p ∧ n ≤ 3 * p ∧ Num wr (some ⟨g, 0, none⟩) n c z ∧ val z n = numV s p ∧ Hid (sizeL z n = n) ∧ Below w.heap.size w wr) (fun _ i _ _ _ => s.size - (intOf i).toNat)
  case atStart => exact ⟨0, 0, 0, _, fun _ => 0, Nat.zero_le _, rfl, rfl, Nat.le_refl _, HN0, rfl, (show sizeL _ 0 = 0 from rfl), HB0⟩
  case round =>
    clear HN0 HB0
    obtain ⟨p, n, c, g, z, hp, rfl, rfl, hnp, hN, hv, hts, hB⟩ := hrel
    by_cases hlt : p < s.size
    · have hpi : (p : Int) < s.size := by omega
      have HN : Hid (Num wr (some ⟨g, 0, none⟩) n c z) := hN
      have HV : Hid (val z n = numV s p) := hv
      have HB : Hid (Below w.heap.size w wr) := hB
      clear hN hv hB
      go_wp2
      go_loop [4, 5, 6] (fun t4 t5 t6 => ∃ (q : Nat) (S b : Int), p + q ≤ s.size ∧ q ≤ 18 ∧ t4 = .int .i64 ((p + q : Nat) : Int) ∧ t5 = .int .u64 b ∧ t6 = .int .u64 S ∧ Hid (S = 10 ^ q ∧ numV s (p + q) = numV s p * S + b) ∧ 0 ≤ b ∧ b < S) (fun i _ _ => s.size - (intOf i).toNat)
      case atStart => exact ⟨0, 1, 0, by omega, by omega, rfl, rfl, rfl, ⟨by simp, by simp⟩, by decide, by decide⟩
      case round =>
        obtain ⟨q, S, b, hpq, hq, rfl, rfl, rfl, hSb, hb0, hbS⟩ := hrel
        have hS18 : S ≤ 1000000000000000000 := by
          have := p10_le hq
          rw [← hSb.out.1] at this
          exact this
        by_cases hgo : p + q < s.size ∧ q < 18
        · obtain ⟨hgo1, hgo2⟩ := hgo
          have hki : ((p + q : Nat) : Int) < s.size := by omega
          have hS17 : S ≤ 100000000000000000 := by
            have := p10_le (show q ≤ 17 by omega)
            rw [← hSb.out.1] at this
            exact this
          have hsb := sb_lt hgo1
          have hbd := HDG.out (p + q) hgo1
          have HSB : Hid (10 * S = 10 ^ (q + 1) ∧ numV s (p + (q + 1)) = numV s p * (10 * S) + (10 * b + (sb s (p + q) - 48))) := by
            show _ ∧ _
            obtain ⟨e1, e2⟩ := hSb.out
            refine ⟨by rw [e1, Int.pow_succ]; omega, ?_⟩
            rw [← Nat.add_assoc]
            simp only [numV]
            rw [e2]; grind
          have HPQ : Hid ((p + q : Nat) + 1 = p + (q + 1)) := rfl
          clear hSb
          generalize p + q = r at *
          go_wp2
          go_round
          case rel => exact ⟨q + 1, 10 * S, 10 * b + (sb s r - 48), by have := HPQ.out; omega, by omega, by rw [← HPQ.out]; go_num, by go_num, by go_num, HSB.out, by omega, by omega⟩
          case measure => simp [intOf]; omega
        · have hstop : ((p + q : Nat) : Int) < s.size → S = 1000000000000000000 := fun h => by
            have : q = 18 := by omega
            rw [hSb.out.1, this]; rfl
          have hq0 : 0 < q := by omega
          have hN1 := num_one wr S (by omega)
          have hT := times_raw g 0 n c wr.heap.size 0 1 1 z (oneW S) (wr.alloc (.cells #[.int .u64 S] 22)) (by omega) (by omega) (HN.out.next (below1 wr _)) hN1
          have HB1 : Hid (Below w.heap.size w (wr.alloc (.cells #[.int .u64 S] 22))) := HB.out.trans ((below1 wr _).mono HB.out.size)
          have HSV : Hid (numV s (p + q) = val z n * S + b) := by show _ = _; rw [hSb.out.2, HV.out]
          have HQ : Hid (0 < q ∧ q ≤ 18) := ⟨hq0, hq⟩
          have hpr : p < p + q := by omega
          have hnr : n + 3 ≤ 3 * (p + q) := by omega
          have hA := fun (w1 : World) (g1 k1 c1 : Nat) (z1 : Nat → Int) (hk1 : k1 ≤ n + 1 + 1) (h1 : Num w1 (some ⟨g1, 0, none⟩) k1 c1 z1) => radd_vt (some ⟨g1, 0, none⟩) (some ⟨w1.heap.size, 0, none⟩) k1 c1 1 1 z1 (oneW b) (w1.alloc (.cells #[.int .u64 b] 22)) (by omega) (by omega) (h1.next (below1 w1 _)) (num_one w1 b (by omega))
          clear hSb hgo hN1 hq hq0
          generalize p + q = r at *
          by_cases hrs : r < s.size
          · have hri : (r : Int) < s.size := by omega
            have hS := hstop hri
            subst hS
            go_wp2_with (first | (go_at_call 32; refine hT.mono ?_; rintro e w1 ⟨g1, k1, c1, z1, rfl, hk1, hN1, hv1, hB1⟩; clear hT; have hA1 := hA w1 g1 k1 c1 z1 (by omega) hN1; clear hA) | (go_at_call 18; refine hA1.mono ?_; rintro e w2 ⟨g2, k2, c2, z2, rfl, hk2, hN2, hv2, hB2, ht2⟩; clear hA1; have HT2 : Hid (sizeL z2 k2 = k2) := ht2; clear ht2))
            go_roundw
            case rel =>
              refine ⟨r, k2, c2, g2, z2, hpq, rfl, rfl, by omega, hN2, ?_, HT2, ?_⟩
              · rw [hv2, HSV.out, val_one _ 1 (by omega), ← val_more hN1.2.2.2.1 (n + 1 + 1) hk1, hv1, val_one _ 1 (by omega)]
              · have b1 := HB1.out.trans (hB1.mono HB1.out.size)
                have b2 := b1.trans ((below1 w1 (.cells #[.int .u64 b] 22)).mono b1.size)
                exact b2.trans (hB2.mono b2.size)
            case measure => simp [intOf]; omega
          · obtain rfl : r = s.size := by omega
            clear hstop
            go_wp2_with (first | (go_at_call 32; refine hT.mono ?_; rintro e w1 ⟨g1, k1, c1, z1, rfl, hk1, hN1, hv1, hB1⟩; clear hT; have hA1 := hA w1 g1 k1 c1 z1 (by omega) hN1; clear hA) | (go_at_call 18; refine hA1.mono ?_; rintro e w2 ⟨g2, k2, c2, z2, rfl, hk2, hN2, hv2, hB2, ht2⟩; clear hA1; have HT2 : Hid (sizeL z2 k2 = k2) := ht2; clear ht2))
            go_roundw
            case rel =>
              refine ⟨s.size, k2, c2, g2, z2, Nat.le_refl _, rfl, rfl, by omega, hN2, ?_, HT2, ?_⟩
              · rw [hv2, HSV.out, val_one _ 1 (by omega), ← val_more hN1.2.2.2.1 (n + 1 + 1) hk1, hv1, val_one _ 1 (by omega)]
              · have b1 := HB1.out.trans (hB1.mono HB1.out.size)
                have b2 := b1.trans ((below1 w1 (.cells #[.int .u64 b] 22)).mono b1.size)
                exact b2.trans (hB2.mono b2.size)
            case measure => simp [intOf]; omega
    · obtain rfl : p = s.size := by omega
      have HN : Hid (Num wr (some ⟨g, 0, none⟩) n c z) := hN
      have HV : Hid (val z n = numV s s.size) := hv
      have HB : Hid (Below w.heap.size w wr) := hB
      clear hN hv hB
      go_wp2
      go_ret
      exact ⟨g, n, c, z, rfl, by omega, HN.out, HV.out, HB.out, hts.out⟩
end Go.Proofs.YtckkibmehjlgaaaGreatDoor

namespace Go.Proofs.YtckkibmehjlgaaaGreatDoor
open Go.RowKit

section
variable {P : Program} {ops : Array Oper} {Q : Exit → Act → World → Prop} {md : Region.Mode}

/-- what is said of a value stays, whatever memory is made -/
def Stays (p : Value → World → Prop) : Prop := ∀ v w w', p v w → Below w.heap.size w w' → p v w'

/-- each of the first n writes a slot of its own -/
def dstG (l : List Oper) (D : List Nat) (n m : Nat) : Bool :=
  (List.range n).all fun i => (match l[i]? with
    | some o => o.dst == some (D.getD i 0)
    | none => false) && decide (D.getD i 0 < m) && (List.range n).all fun j => j == i || D.getD j 0 != D.getD i 0
theorem dstG_spec {l : List Oper} {D : List Nat} {n m : Nat} (h : dstG l D n m = true) (i : Nat) (hi : i < n) :
    ∃ o, l[i]? = some o ∧ o.dst = some (D.getD i 0) ∧ D.getD i 0 < m ∧ ∀ j, j < n → j ≠ i → D.getD j 0 ≠ D.getD i 0 := by
  have h1 := List.all_eq_true.1 h i (List.mem_range.2 hi)
  cases ho : l[i]? with
  | none => simp [ho] at h1
  | some o =>
    simp only [ho, Bool.and_eq_true, decide_eq_true_eq, beq_iff_eq, List.all_eq_true, Bool.or_eq_true, bne_iff_ne, List.mem_range] at h1
    exact ⟨o, rfl, h1.1.1, h1.1.2, fun j hj hne => (h1.2 j hj).resolve_left hne⟩
/-- what an operation's guard looks at is done ahead of it -/
def gdB (l : List Oper) (n : Nat) : Bool :=
  (List.range n).all fun i => match l[i]? with
    | some o => match o.guard with
      | none => true
      | some (j, _) => decide (j < n) && o.after.any fun e => Region.binds .any e && e.on == j
    | none => false
theorem gdB_spec {l : List Oper} {n : Nat} (h : gdB l n = true) (i : Nat) (hi : i < n) (o : Oper) (ho : l[i]? = some o) (j : Nat) (b : Bool) (hg : o.guard = some (j, b)) :
    j < n ∧ ∃ e ∈ o.after, Region.binds .any e = true ∧ e.on = j := by
  have h1 := List.all_eq_true.1 h i (List.mem_range.2 hi)
  simp only [ho, hg, Bool.and_eq_true, decide_eq_true_eq, Array.any_eq_true', beq_iff_eq] at h1
  obtain ⟨h1, e, he, h2, h3⟩ := h1
  exact ⟨h1, e, he, h2, h3⟩

end
end Go.Proofs.YtckkibmehjlgaaaGreatDoor

namespace Go.Proofs.YtckkibmehjlgaaaGreatDoor
open Go.RowKit

section
variable {P : Program} {ops : Array Oper} {Q : Exit → Act → World → Prop} {md : Region.Mode}
theorem wpAny_inv0 {B : Act → World → Prop} {R : Nat → Act → World → Prop} (hb : backB md ops ops.size = true)
    (hstep : ∀ i o a w, ops[i]? = some o → B a w → (∀ e ∈ o.after, Region.binds md e = true → R e.on a w) → wpOp P ops Q i (fun a' w' => B a' w' ∧ R i a' w' ∧ ∀ j, j < ops.size → j ≠ i → R j a w → R j a' w') a w)
    (hend : ∀ a w, B a w → (∀ i, i < ops.size → R i a w) → Q .normal a w) :
    ∀ (f : Nat) (listed : Array Bool) (a : Act) (w : World), listed.size = ops.size → toCome listed ops.size = f → B a w → (∀ i, i < ops.size → listed.getD i false = true → R i a w) → wpAny P md ops Q f listed a w
  | 0, listed, a, w, hsz, hf, hB, hR => by
    have hz := toCome_zero ops.size hf
    refine ⟨?_, hend a w hB fun i hi => hR i hi (getD_true_in (by rw [hsz]; exact hi) (hz i hi))⟩
    refine List.eq_nil_iff_forall_not_mem.2 fun j hj => ?_
    obtain ⟨hu, o, ho, _⟩ := mem_ready.1 hj
    have hlt : j < ops.size := (Array.getElem?_eq_some_iff.1 ho).1
    rw [hz j hlt] at hu; cases hu
  | f + 1, listed, a, w, hsz, hf, hB, hR => by
    obtain ⟨k, hk, hku, hkl⟩ := toCome_least (listed := listed) ops.size (by omega)
    refine ⟨fun h0 => ?_, fun i hi => ?_⟩
    · obtain ⟨o, ho, hlt⟩ := backB_spec hb k hk
      have : k ∈ Region.ready md ops listed := mem_ready.2 ⟨hku, o, ho, fun e he hbd => by
        have := hlt e he hbd
        exact getD_true_in (by rw [hsz]; omega) (hkl _ this)⟩
      rw [h0] at this; cases this
    · obtain ⟨hu, o, ho, hall⟩ := mem_ready.1 hi
      have hin : i < ops.size := (Array.getElem?_eq_some_iff.1 ho).1
      obtain ⟨o', ho', hlt⟩ := backB_spec hb i hin
      obtain rfl : o' = o := Option.some.inj (ho'.symm.trans ho)
      refine wpOp_mono (fun a' w' h3 => ?_) (hstep i o' a w ho hB fun e he hbd => hR _ (by have := hlt e he hbd; omega) (hall e he hbd))
      refine wpAny_inv0 hb hstep hend f _ a' w' (by simp [hsz]) (by have := toCome_set hu ops.size hin; omega) h3.1 fun j hj hl => ?_
      by_cases e : j = i
      · subst e; exact h3.2.1
      · rw [getD_set_ne false (fun h => e h.symm)] at hl
        exact h3.2.2 j hj e (hR j hj hl)

/-- wp_region_gvals, of a region all of whose operations leave a value -/
theorem wp_region_gall (m : Nat) (D : List Nat) (S : List (Value → World → Prop)) (C : World → Prop) {id : Nat} {l : List Oper} {a0 : Act} {w0 : World} (hm : P.follows .mixedOrders = true) (hI : backB .any l.toArray l.length = true) (hD : dstG l D l.length m = true) (hGd : gdB l l.length = true)
    (hsz : a0.tmps.size = m) (hS : ∀ p ∈ S, Stays p) (hC0 : C w0.drew) (hCn : ∀ w w', C w → Below w.heap.size w w' → C w')
    (hGv : ∀ i o j b, i < l.length → l[i]? = some o → o.guard = some (j, b) → ∀ v w, (S.getD j fun _ _ => True) v w → v = .bool b)
    (hstep : ∀ i o a w, i < l.length → l[i]? = some o → C w → (∀ t, (∀ i, i < l.length → D.getD i 0 ≠ t) → slot a t = slot a0 t) → (∀ e ∈ o.after, Region.binds .any e = true → (S.getD e.on fun _ _ => True) (slot a (D.getD e.on 0)) w) →
      o.wp P a w (fun a' w' => ∃ v, a' = a.put o.dst v ∧ (S.getD i fun _ _ => True) v w' ∧ Below w.heap.size w w') Q)
    (hend : ∀ a w, C w → a.tmps.size = m → a.defers = a0.defers → (∀ t, (∀ i, i < l.length → D.getD i 0 ≠ t) → slot a t = slot a0 t) → (∀ i, i < l.length → (S.getD i fun _ _ => True) (slot a (D.getD i 0)) w) → Q .normal a w) :
    (Code.region id l.toArray true).wp P Q a0 w0 := by
  have hSt : ∀ i, Stays (S.getD i fun _ _ => True) := by
    intro i
    rcases Nat.lt_or_ge i S.length with h | h
    · rw [List.getD_eq_getElem?_getD, List.getElem?_eq_getElem h]; exact hS _ (List.getElem_mem h)
    · rw [List.getD_eq_getElem?_getD, List.getElem?_eq_none h]; exact fun _ _ _ _ _ => trivial
  have hsl : l.toArray.size = l.length := by simp
  refine wp_region_any hm ?_
  have H := wpAny_inv0 (P := P) (Q := Q) (md := .any) (ops := l.toArray) (B := fun a w => C w ∧ a.tmps.size = m ∧ a.defers = a0.defers ∧ ∀ t, (∀ i, i < l.length → D.getD i 0 ≠ t) → slot a t = slot a0 t)
    (R := fun i a w => (S.getD i fun _ _ => True) (slot a (D.getD i 0)) w) (by rw [hsl]; exact hI) ?_ (fun a w h hR => hend a w h.1 h.2.1 h.2.2.1 h.2.2.2 (fun i hi => hR i (by rw [hsl]; exact hi))) l.toArray.size (Array.replicate l.toArray.size false) a0 w0.drew (by simp) (toCome_replicate _ _ (Nat.le_refl _)) ⟨hC0, hsz, rfl, fun _ _ => rfl⟩ (fun i hi hl => by rw [getD_replicate_false] at hl; cases hl)
  · exact H
  intro i o a w ho0 hB hR
  have ho : l[i]? = some o := by simpa using ho0
  have hi : i < l.length := (List.getElem?_eq_some_iff.1 ho).1
  obtain ⟨o', ho2, hd, hlt, hne⟩ := dstG_spec hD i hi
  have eo : o' = o := Option.some.inj (ho2.symm.trans ho)
  subst eo
  have hw := hstep i o' a w hi ho hB.1 hB.2.2.2 hR
  unfold wpOp
  simp only [ho0]
  have hwant : Region.wanted o' (yielded l.toArray a.tmps) = true := by
    unfold Region.wanted
    cases hg : o'.guard with
    | none => rfl
    | some q =>
      obtain ⟨j, b⟩ := q
      obtain ⟨hj, e, he, hbd, hej⟩ := gdB_spec hGd i hi o' ho j b hg
      have hv := hR e he hbd
      rw [hej] at hv
      have hv2 := hGv i o' j b hi ho hg _ _ hv
      obtain ⟨oj, hoj, hdj, hltj, _⟩ := dstG_spec hD j hj
      have hoj' : l.toArray[j]? = some oj := by simpa using hoj
      have hs : D.getD j 0 < a.tmps.size := by rw [hB.2.1]; exact hltj
      have ht : a.tmps[D.getD j 0]? = some (.bool b) := by
        have h5 : a.tmps[D.getD j 0]? = some a.tmps[D.getD j 0] := Array.getElem?_eq_getElem hs
        have h6 : slot a (D.getD j 0) = a.tmps[D.getD j 0] := by unfold slot; rw [h5]; rfl
        rw [h5, ← h6, hv2]
      have hy : yielded l.toArray a.tmps j = some b := by
        unfold yielded
        simp only [hoj', Option.bind_some, hdj, ht]
      simp [hy]
  rw [if_pos hwant]
  refine Or.inl (Oper.wp_mono ?_ hw)
  rintro a' w' ⟨v, rfl, hv, hb⟩
  rw [hd]
  refine ⟨⟨hCn _ _ hB.1 hb, by simp [Act.put, hB.2.1], hB.2.2.1, fun t ht => ?_⟩, ?_, fun j hj hji hRj => ?_⟩
  · rw [slot_put_ne (ht i hi)]; exact hB.2.2.2 t ht
  · show (S.getD i fun _ _ => True) (slot (a.put (some (D.getD i 0)) v) (D.getD i 0)) w'
    rw [slot_put (by rw [hB.2.1]; exact hlt)]; exact hv
  · show (S.getD j fun _ _ => True) (slot (a.put (some (D.getD i 0)) v) (D.getD j 0)) w'
    rw [slot_put_ne (fun h => hne j (by rw [← hsl]; exact hj) hji h.symm)]
    exact hSt j _ _ _ hRj hb
/-- this value -/
def isV (u : Value) : Value → World → Prop := fun v _ => v = u
theorem isV.stays (u : Value) : Stays (isV u) := fun v w w' h _ => h
end
end Go.Proofs.YtckkibmehjlgaaaGreatDoor

namespace Go.Proofs.YtckkibmehjlgaaaGreatDoor
open Go.RowKit

theorem NT.stays (K V : Nat) : Stays (NT K V) := fun v w w' h hb => h.next hb
section
variable {a : Act} {w : World} {K : Act → World → Prop} {Q : Exit → Act → World → Prop} {d p q r : Nat} {ty : TypeId} {pos : String} {after : Array Edge} {gd : Option (Nat × Bool)}
theorem op_mv {v : Value} (h1 : slot a p = v) (hK : K (a.put (some d) v) w) : Oper.wp Tryz.prog { dst := some d, op := Op.move (Operand.tmp p), type := ty, pos := pos, after := after, guard := gd } a w K Q := by
  unfold slot at h1
  simp [go_sem, h1]
  exact hK
theorem op_as {v : Value} (h1 : slot a p = v) (hK : K (a.put (some d) v) w) : Oper.wp Tryz.prog { dst := some d, op := Op.assign (Operand.tmp p), type := ty, pos := pos, after := after, guard := gd } a w K Q := by
  unfold slot at h1
  simp [go_sem, h1]
  exact hK
theorem op_fa5 {g : Nat} (h1 : slot a p = .pointer (some ⟨g, 0, none⟩)) (hK : K (a.put (some d) (.pointer (some ⟨g, 5, none⟩))) w) : Oper.wp Tryz.prog { dst := some d, op := Op.fieldAddr 51 (Operand.tmp p) 5, type := ty, pos := pos, after := after, guard := gd } a w K Q := by
  unfold slot at h1
  simp [go_sem, h1]
  exact hK
theorem op_ld {g i : Nat} {x : Int} (h1 : slot a p = .pointer (some ⟨g, i, none⟩)) (h2 : w.cell? ⟨g, i, none⟩ = some (.int .i64 x)) (hK : K (a.put (some d) (.int .i64 x)) w) : Oper.wp Tryz.prog { dst := some d, op := Op.load 3 (Operand.tmp p), type := ty, pos := pos, after := after, guard := gd } a w K Q := by
  unfold slot at h1
  simp [go_sem, h1, h2]
  exact hK
theorem op_ld24 {g : Nat} {B : Nat} (h1 : slot a p = .pointer (some ⟨g, 0, none⟩)) (h2 : ∀ i, i < 4 → w.cell? ⟨g, i, none⟩ = some (.int .u64 (W4 B i))) (hK : K (a.put (some d) (A4 B)) w) : Oper.wp Tryz.prog { dst := some d, op := Op.load 24 (Operand.tmp p), type := ty, pos := pos, after := after, guard := gd } a w K Q := by
  unfold slot at h1
  have c0 := h2 0 (by decide)
  have c1 := h2 1 (by decide)
  have c2 := h2 2 (by decide)
  have c3 := h2 3 (by decide)
  simp [go_sem, h1, c0, c1, c2, c3]
  exact hK
theorem op_c26z {u u' : Value} {z : Int} {ts : Array TypeId} (h1 : slot a p = u) (h2 : slot a q = u') (hc : Calls Tryz.prog 46 #[u, .int .i64 z, u'] w fun e w' => ∃ v, e = .returned v ∧ K (a.put (some d) v) w') : Oper.wp Tryz.prog { dst := some d, op := Op.call { callee := Callee.value (Operand.func 46), args := #[Operand.tmp p, Operand.const (.int .i64 z), Operand.tmp q], argTypes := ts }, type := ty, pos := pos, after := after, guard := gd } a w K Q := by
  unfold slot at h1 h2
  simp [go_sem, h1, h2]
  refine hc.mono ?_
  rintro e w' ⟨v, rfl, hK⟩
  exact hK
theorem op_c26 {u u' u'' : Value} {ts : Array TypeId} (h1 : slot a p = u) (h2 : slot a q = u') (h3 : slot a r = u'') (hc : Calls Tryz.prog 46 #[u, u', u''] w fun e w' => ∃ v, e = .returned v ∧ K (a.put (some d) v) w') : Oper.wp Tryz.prog { dst := some d, op := Op.call { callee := Callee.value (Operand.func 46), args := #[Operand.tmp p, Operand.tmp q, Operand.tmp r], argTypes := ts }, type := ty, pos := pos, after := after, guard := gd } a w K Q := by
  unfold slot at h1 h2 h3
  simp [go_sem, h1, h2, h3]
  refine hc.mono ?_
  rintro e w' ⟨v, rfl, hK⟩
  exact hK
theorem op_c27 {u : Value} {ts : Array TypeId} (h1 : slot a p = u) (hc : Calls Tryz.prog 35 #[u] w fun e w' => ∃ v, e = .returned v ∧ K (a.put (some d) v) w') : Oper.wp Tryz.prog { dst := some d, op := Op.call { callee := Callee.value (Operand.func 35), args := #[Operand.tmp p], argTypes := ts }, type := ty, pos := pos, after := after, guard := gd } a w K Q := by
  unfold slot at h1
  simp [go_sem, h1]
  refine hc.mono ?_
  rintro e w' ⟨v, rfl, hK⟩
  exact hK
end
noncomputable def ops5 : List Oper := match Tryz.f16.body with
  | some (.seq _ (.seq _ (.seq _ (.seq _ (.seq (.region _ o _) _))))) => o.toList
  | _ => []
def slots5 : List Nat := [25, 26, 27, 28, 29, 30, 31, 32, 33, 9, 10]
set_option maxHeartbeats 4000000 in
theorem reg5 {gb gi f e B Fr En : Nat} {a0 : Act} {ws : World} {Q : Exit → Act → World → Prop} (c0 : ∀ w, Calls Tryz.prog 46 #[A4 B, .int .i64 0, .int .i64 f] w fun x w' => ∃ r, x = .returned r ∧ NT 19 Fr r w' ∧ Below w.heap.size w w') (c1 : ∀ w, Calls Tryz.prog 46 #[A4 B, .int .i64 f, .int .i64 e] w fun x w' => ∃ r, x = .returned r ∧ NT 19 En r w' ∧ Below w.heap.size w w') (hE : En < 9223372036854775808) (hs : a0.tmps.size = 101)
    (h3 : slot a0 3 = .pointer (some ⟨gb, 0, none⟩)) (h6 : slot a0 6 = .pointer (some ⟨gi, 0, none⟩)) (h8 : slot a0 8 = .int .i64 f)
    (hgb : gb < ws.heap.size) (hgi : gi < ws.heap.size) (hcb : ∀ i, i < 4 → ws.cell? ⟨gb, i, none⟩ = some (.int .u64 (W4 B i))) (hci : ws.cell? ⟨gi, 5, none⟩ = some (.int .i64 e))
    (hQ : ∀ (a : Act) (w : World) (v : Value), NT 19 Fr v w → slot a 9 = v → slot a 10 = .int .i64 (En : Int) → a.tmps.size = 101 → a.defers = a0.defers → (∀ t, (∀ i, i < 11 → slots5.getD i 0 ≠ t) → slot a t = slot a0 t) → Below ws.heap.size ws w → Q .normal a w) :
    (Code.region 5 ops5.toArray true).wp Tryz.prog Q a0 ws := by
  refine wp_region_gall 101 slots5 [isV (A4 B), isV (.int .i64 f), NT 19 Fr, isV (A4 B), isV (.int .i64 f), isV (.pointer (some ⟨gi, 5, none⟩)), isV (.int .i64 e), NT 19 (En), isV (.int .i64 (En : Int)), NT 19 Fr, isV (.int .i64 (En : Int))]
    (fun w => Below ws.heap.size ws w) (by kernel_rfl) (by kernel_rfl) (by kernel_rfl) (by kernel_rfl) hs ?_ (Below.refl _ _).drew (fun w w' h hb => h.trans (hb.mono h.size)) ?_ ?_ ?_
  · intro p hp
    simp only [List.mem_cons, List.not_mem_nil, or_false] at hp
    rcases hp with rfl | rfl | rfl | rfl | rfl | rfl | rfl | rfl | rfl | rfl | rfl
    all_goals first | exact isV.stays _ | exact NT.stays _ _
  · intro i o j b hi ho hg v w hv
    have hi' : i < 11 := hi
    have hor : i = 0 ∨ i = 1 ∨ i = 2 ∨ i = 3 ∨ i = 4 ∨ i = 5 ∨ i = 6 ∨ i = 7 ∨ i = 8 ∨ i = 9 ∨ i = 10 := by omega
    rcases hor with rfl | rfl | rfl | rfl | rfl | rfl | rfl | rfl | rfl | rfl | rfl
    all_goals
      obtain rfl := Option.some.inj (show ops5[_]? = some o from ho)
      cases hg
  · intro i o' a w hi ho hC hF hdep
    have f3 : slot a 3 = .pointer (some ⟨gb, 0, none⟩) := (hF 3 (by decide)).trans h3
    have f6 : slot a 6 = .pointer (some ⟨gi, 0, none⟩) := (hF 6 (by decide)).trans h6
    have f8 : slot a 8 = .int .i64 f := (hF 8 (by decide)).trans h8
    have hcB : ∀ i, i < 4 → w.cell? ⟨gb, i, none⟩ = some (.int .u64 (W4 B i)) := fun i hi => (hC.cell (p := ⟨gb, i, none⟩) hgb).trans (hcb i hi)
    have hcI : w.cell? ⟨gi, 5, none⟩ = some (.int .i64 e) := (hC.cell (p := ⟨gi, 5, none⟩) hgi).trans hci
    have hi' : i < 11 := hi
    have hor : i = 0 ∨ i = 1 ∨ i = 2 ∨ i = 3 ∨ i = 4 ∨ i = 5 ∨ i = 6 ∨ i = 7 ∨ i = 8 ∨ i = 9 ∨ i = 10 := by omega
    rcases hor with rfl | rfl | rfl | rfl | rfl | rfl | rfl | rfl | rfl | rfl | rfl
    · obtain rfl := Option.some.inj (show ops5[0]? = some o' from ho)
      exact op_ld24 f3 hcB ⟨_, rfl, rfl, Below.refl _ _⟩
    · obtain rfl := Option.some.inj (show ops5[1]? = some o' from ho)
      exact op_mv f8 ⟨_, rfl, rfl, Below.refl _ _⟩
    · obtain rfl := Option.some.inj (show ops5[2]? = some o' from ho)
      refine op_c26z (hdep ⟨0, .data⟩ (by simp) rfl : slot a 25 = A4 B) (hdep ⟨1, .data⟩ (by simp) rfl : slot a 26 = .int .i64 f) ((c0 w).mono ?_)
      rintro e w' ⟨r, rfl, hr, hb⟩
      exact ⟨_, rfl, _, rfl, hr, hb⟩
    · obtain rfl := Option.some.inj (show ops5[3]? = some o' from ho)
      exact op_ld24 f3 hcB ⟨_, rfl, rfl, Below.refl _ _⟩
    · obtain rfl := Option.some.inj (show ops5[4]? = some o' from ho)
      exact op_mv f8 ⟨_, rfl, rfl, Below.refl _ _⟩
    · obtain rfl := Option.some.inj (show ops5[5]? = some o' from ho)
      exact op_fa5 f6 ⟨_, rfl, rfl, Below.refl _ _⟩
    · obtain rfl := Option.some.inj (show ops5[6]? = some o' from ho)
      exact op_ld (hdep ⟨5, .data⟩ (by simp) rfl : slot a 30 = .pointer (some ⟨gi, 5, none⟩)) hcI ⟨_, rfl, rfl, Below.refl _ _⟩
    · obtain rfl := Option.some.inj (show ops5[7]? = some o' from ho)
      refine op_c26 (hdep ⟨3, .data⟩ (by simp) rfl : slot a 28 = A4 B) (hdep ⟨4, .data⟩ (by simp) rfl : slot a 29 = .int .i64 f) (hdep ⟨6, .data⟩ (by simp) rfl : slot a 31 = .int .i64 e) ((c1 w).mono ?_)
      rintro e w' ⟨r, rfl, hr, hb⟩
      exact ⟨_, rfl, _, rfl, hr, hb⟩
    · obtain rfl := Option.some.inj (show ops5[8]? = some o' from ho)
      have hv := (hdep ⟨7, .data⟩ (by simp) rfl : NT 19 (En) (slot a 32) w)
      refine op_c27 rfl ((number_nv hv.nv (by decide) hE).mono ?_)
      rintro e w' ⟨rfl, rfl⟩
      exact ⟨_, rfl, _, rfl, rfl, Below.refl _ _⟩
    · obtain rfl := Option.some.inj (show ops5[9]? = some o' from ho)
      have hv := (hdep ⟨2, .data⟩ (by simp) rfl : NT 19 Fr (slot a 27) w)
      exact op_as rfl ⟨_, rfl, hv, Below.refl _ _⟩
    · obtain rfl := Option.some.inj (show ops5[10]? = some o' from ho)
      exact op_as (hdep ⟨8, .data⟩ (by simp) rfl : slot a 33 = .int .i64 (En : Int)) ⟨_, rfl, rfl, Below.refl _ _⟩
  · intro a w hC hsz hdf hF hR
    exact hQ a w _ (hR 9 (by decide)) rfl (hR 10 (by decide)) hsz hdf (fun t ht => hF t ht) hC
end Go.Proofs.YtckkibmehjlgaaaGreatDoor

namespace Go.Proofs.YtckkibmehjlgaaaGreatDoor
open Go.RowKit

set_option maxHeartbeats 1000000 in
theorem runpack_bad (n : Int) (B : Nat) (w : World) (hB : B < 2 ^ 256) (h : ¬ goodN n B) :
    Calls Tryz.prog 16 #[.int .i64 n, A4 B] w fun x w' => x = .returned (.tuple #[DV 0 false false 0 0, .int .i64 1]) ∧ Below w.heap.size w w' := by
  have c24 := fun w => rgood_any n B hB w
  rw [decide_eq_false h] at c24
  unfold DV
  simp only [W4_zero]
  clear h hB
  go_enter Tryz.func16, Tryz.ntmps16
  go_wp2_with (go_at_call 14; refine (c24 _).mono ?_; rintro x w1 ⟨rfl, hb1⟩; obtain ⟨hc1, hf1⟩ := bcell hb1; have hz1_0 : w.heap.size < w1.heap.size := lt_below hb1 ltg; have hl1_0 := Nat.le_of_lt hz1_0; have hz1_1 : w.heap.size + 1 < w1.heap.size := lt_below hb1 ltg; have hl1_1 := Nat.le_of_lt hz1_1; have hA1 := bnext (w0 := w) bgo hb1; have hs1 := hA1.size; clear hb1)
  have hsm := cell_set_map
  exact bodyPost_ret (v := .tuple #[.agg #[.int .i64 0, .bool false, .bool false, .int .i64 0, .int .u64 0, .int .u64 0, .int .u64 0, .int .u64 0], .int .i64 1]) (by simp only [results, Tryz.results16]; go_simp) rfl ⟨rfl, bgo⟩

theorem pow_e' {e : Nat} (h15 : e ≤ 15) : (1 : Int) ≤ 2 ^ e ∧ (2 : Int) ^ e ≤ 32768 := by
  have b : (2 : Nat) ^ e ≤ 2 ^ 15 := Nat.pow_le_pow_right (by decide) h15
  have a : 1 ≤ 2 ^ e := Nat.one_le_two_pow
  have c : ((2 : Int) ^ e) = ((2 ^ e : Nat) : Int) := by simp
  rw [c]; omega
attribute [local irreducible] W4 NT NV
section
variable (n : Int) (B : Nat) (f e Fr En S : Nat) (l m pay wd : Int) (nm : ByteArray) (w : World) (hf : 2 ≤ f ∧ f ≤ 240) (he : e ≤ 15) (hEn : En < 9223372036854775808) (hS9 : S < 9223372036854775808)
  (c24 : ∀ w, Calls Tryz.prog 14 #[.int .i64 n, A4 B] w fun x w' => x = .returned (.bool true) ∧ Below w.heap.size w w')
  (c25 : ∀ w, Calls Tryz.prog 25 #[.int .i64 n] w fun x w' => x = .returned (.tuple #[.agg #[.int .i64 n, .string nm, .int .i64 2, .int .i64 wd, .int .i64 ((f : Int) + 1), .int .i64 e, .int .i64 l, .int .i64 m, .int .i64 pay, .bool false], .int .i64 0]) ∧ Below w.heap.size w w')
  (c0 : ∀ w, Calls Tryz.prog 46 #[A4 B, .int .i64 0, .int .i64 f] w fun x w' => ∃ r, x = .returned r ∧ NT 19 Fr r w' ∧ Below w.heap.size w w')
  (c1 : ∀ w, Calls Tryz.prog 46 #[A4 B, .int .i64 f, .int .i64 e] w fun x w' => ∃ r, x = .returned r ∧ NT 19 En r w' ∧ Below w.heap.size w w')
  (c26 : ∀ w, Calls Tryz.prog 46 #[A4 B, .int .i64 ((f : Int) + e), .int .i64 1] w fun x w' => ∃ r, x = .returned r ∧ NT 19 S r w' ∧ Below w.heap.size w w')
include hf he hEn hS9 c24 c25 c0 c1 c26
set_option maxHeartbeats 1000000 in
theorem runpack_inf (hE : ((En : Int) == 2 ^ e - 1) = true) (h0 : Fr = 0) :
    Calls Tryz.prog 16 #[.int .i64 n, A4 B] w fun x w' => x = .returned (.tuple #[.agg #[.int .i64 2, .bool ((S : Int) == 1), .bool false, .int .i64 0, .int .u64 0, .int .u64 0, .int .u64 0, .int .u64 0], .int .i64 0]) ∧ Below w.heap.size w w' := by
  go_enter Tryz.func16, Tryz.ntmps16
  go_wp2_with (first
    | (go_at_call 14; refine (c24 _).mono ?_; rintro x w1 ⟨rfl, hb1⟩; obtain ⟨hc1, hf1⟩ := bcell hb1; have hz1_0 : w.heap.size < w1.heap.size := lt_below hb1 ltg; have hl1_0 := Nat.le_of_lt hz1_0; have hz1_1 : w.heap.size + 1 < w1.heap.size := lt_below hb1 ltg; have hl1_1 := Nat.le_of_lt hz1_1; have hA1 := bnext (w0 := w) bgo hb1; have hs1 := hA1.size; clear hb1)
    | (go_at_call 25; refine (c25 _).mono ?_; rintro x w2 ⟨rfl, hb2⟩; obtain ⟨hc2, hf2⟩ := bcell hb2; have hz2_0 : w.heap.size < w2.heap.size := lt_below hb2 ltg; have hl2_0 := Nat.le_of_lt hz2_0; have hz2_1 : w.heap.size + 1 < w2.heap.size := lt_below hb2 ltg; have hl2_1 := Nat.le_of_lt hz2_1; have hA2 := bnext (w0 := w) bgo hb2; have hs2 := hA2.size; clear hb2))
  have k0 : w2.cell? ⟨w.heap.size, 0, none⟩ = some (.int .u64 (W4 B 0)) := (by go_simp)
  have k1 : w2.cell? ⟨w.heap.size, 1, none⟩ = some (.int .u64 (W4 B 1)) := (by go_simp)
  have k2 : w2.cell? ⟨w.heap.size, 2, none⟩ = some (.int .u64 (W4 B 2)) := (by go_simp)
  have k3 : w2.cell? ⟨w.heap.size, 3, none⟩ = some (.int .u64 (W4 B 3)) := (by go_simp)
  refine reg5 (gb := w.heap.size) (gi := w2.heap.size) (f := f) (e := e) (B := B) c0 c1 hEn rfl rfl rfl rfl (by simp; omega) (by simp) (fun i hi => ?_) (by go_simp) ?_
  · have : i = 0 ∨ i = 1 ∨ i = 2 ∨ i = 3 := by omega
    rcases this with rfl | rfl | rfl | rfl <;> go_simp
  intro a w3 v hv h9 h10 hsz hdf hF hb3
  have ha := act_of slots5 11 rfl hsz hdf hF
  rw [ha]
  simp only [slots5, List.foldl_cons, List.foldl_nil, Act.put, List.setIfInBounds_toArray, List.set_cons_succ, List.set_cons_zero, h9, h10]
  generalize slot a 25 = s25
  generalize slot a 26 = s26
  generalize slot a 27 = s27
  generalize slot a 28 = s28
  generalize slot a 29 = s29
  generalize slot a 30 = s30
  generalize slot a 31 = s31
  generalize slot a 32 = s32
  generalize slot a 33 = s33
  clear ha hF hsz hdf h9 h10 a
  obtain ⟨hc3, hf3⟩ := bcell hb3; have hz3_0 : w.heap.size < w3.heap.size := lt_below hb3 ltg; have hl3_0 := Nat.le_of_lt hz3_0; have hz3_1 : w.heap.size + 1 < w3.heap.size := lt_below hb3 ltg; have hl3_1 := Nat.le_of_lt hz3_1; have hz3_2 : w2.heap.size < w3.heap.size := lt_below hb3 ltg; have hl3_2 := Nat.le_of_lt hz3_2; have hA3 := bnext (w0 := w) bgo hb3; have hs3 := hA3.size; clear hb3
  obtain ⟨gv, kv, cv, rfl, hkv, hkz⟩ := hv.zero
  have hp := pow_e' he
  obtain rfl : kv = 0 := hkz.2 h0
  generalize (En : Int) = E at *
  clear hkz h0 hv hkv k0 k1 k2 k3 c0 c1
  go_wp2_with (first
    | (go_at_call 46; refine (c26 _).mono ?_; rintro x w4 ⟨v4, rfl, hn4, hb4⟩; obtain ⟨hc4, hf4⟩ := bcell hb4; have hz4_0 : w.heap.size < w4.heap.size := lt_below hb4 ltg; have hl4_0 := Nat.le_of_lt hz4_0; have hz4_1 : w.heap.size + 1 < w4.heap.size := lt_below hb4 ltg; have hl4_1 := Nat.le_of_lt hz4_1; have hz4_2 : w2.heap.size < w4.heap.size := lt_below hb4 ltg; have hl4_2 := Nat.le_of_lt hz4_2; have hA4 := bnext (w0 := w) bgo hb4; have hs4 := hA4.size; clear hb4)
    | (go_at_call 35; refine (number_nv hn4.nv (by decide) hS9).mono ?_; rintro x w5 ⟨rfl, rfl⟩))
  have hsm := cell_set_map
  go_wp2
  exact bodyPost_ret (v := .tuple #[.agg #[.int .i64 2, .bool ((S : Int) == 1), .bool false, .int .i64 0, .int .u64 0, .int .u64 0, .int .u64 0, .int .u64 0], .int .i64 0]) (by simp only [results, Tryz.results16]; go_simp) rfl ⟨rfl, bgo⟩
set_option maxHeartbeats 1000000 in
theorem runpack_nan (hE : ((En : Int) == 2 ^ e - 1) = true) (h0 : Fr ≠ 0) (Sg Pl : Nat) (hS8 : Sg < 9223372036854775808)
  (c26b : ∀ w, Calls Tryz.prog 46 #[A4 B, .int .i64 ((f : Int) - 1), .int .i64 1] w fun x w' => ∃ r, x = .returned r ∧ NT 19 Sg r w' ∧ Below w.heap.size w w')
  (c26c : ∀ w, Calls Tryz.prog 46 #[A4 B, .int .i64 0, .int .i64 ((f : Int) - 1)] w fun x w' => ∃ r, x = .returned r ∧ NT 19 Pl r w' ∧ Below w.heap.size w w') :
    Calls Tryz.prog 16 #[.int .i64 n, A4 B] w fun x w' => x = .returned (.tuple #[.agg #[.int .i64 3, .bool ((S : Int) == 1), .bool ((Sg : Int) == 0), .int .i64 0, .int .u64 (W4 Pl 0), .int .u64 (W4 Pl 1), .int .u64 (W4 Pl 2), .int .u64 (W4 Pl 3)], .int .i64 0]) ∧ Below w.heap.size w w' := by
  go_enter Tryz.func16, Tryz.ntmps16
  go_wp2_with (first
    | (go_at_call 14; refine (c24 _).mono ?_; rintro x w1 ⟨rfl, hb1⟩; obtain ⟨hc1, hf1⟩ := bcell hb1; have hz1_0 : w.heap.size < w1.heap.size := lt_below hb1 ltg; have hl1_0 := Nat.le_of_lt hz1_0; have hz1_1 : w.heap.size + 1 < w1.heap.size := lt_below hb1 ltg; have hl1_1 := Nat.le_of_lt hz1_1; have hA1 := bnext (w0 := w) bgo hb1; have hs1 := hA1.size; clear hb1)
    | (go_at_call 25; refine (c25 _).mono ?_; rintro x w2 ⟨rfl, hb2⟩; obtain ⟨hc2, hf2⟩ := bcell hb2; have hz2_0 : w.heap.size < w2.heap.size := lt_below hb2 ltg; have hl2_0 := Nat.le_of_lt hz2_0; have hz2_1 : w.heap.size + 1 < w2.heap.size := lt_below hb2 ltg; have hl2_1 := Nat.le_of_lt hz2_1; have hA2 := bnext (w0 := w) bgo hb2; have hs2 := hA2.size; clear hb2))
  have k0 : w2.cell? ⟨w.heap.size, 0, none⟩ = some (.int .u64 (W4 B 0)) := (by go_simp)
  have k1 : w2.cell? ⟨w.heap.size, 1, none⟩ = some (.int .u64 (W4 B 1)) := (by go_simp)
  have k2 : w2.cell? ⟨w.heap.size, 2, none⟩ = some (.int .u64 (W4 B 2)) := (by go_simp)
  have k3 : w2.cell? ⟨w.heap.size, 3, none⟩ = some (.int .u64 (W4 B 3)) := (by go_simp)
  refine reg5 (gb := w.heap.size) (gi := w2.heap.size) (f := f) (e := e) (B := B) c0 c1 hEn rfl rfl rfl rfl (by simp; omega) (by simp) (fun i hi => ?_) (by go_simp) ?_
  · have : i = 0 ∨ i = 1 ∨ i = 2 ∨ i = 3 := by omega
    rcases this with rfl | rfl | rfl | rfl <;> go_simp
  intro a w3 v hv h9 h10 hsz hdf hF hb3
  have ha := act_of slots5 11 rfl hsz hdf hF
  rw [ha]
  simp only [slots5, List.foldl_cons, List.foldl_nil, Act.put, List.setIfInBounds_toArray, List.set_cons_succ, List.set_cons_zero, h9, h10]
  generalize slot a 25 = s25
  generalize slot a 26 = s26
  generalize slot a 27 = s27
  generalize slot a 28 = s28
  generalize slot a 29 = s29
  generalize slot a 30 = s30
  generalize slot a 31 = s31
  generalize slot a 32 = s32
  generalize slot a 33 = s33
  clear ha hF hsz hdf h9 h10 a
  obtain ⟨hc3, hf3⟩ := bcell hb3; have hz3_0 : w.heap.size < w3.heap.size := lt_below hb3 ltg; have hl3_0 := Nat.le_of_lt hz3_0; have hz3_1 : w.heap.size + 1 < w3.heap.size := lt_below hb3 ltg; have hl3_1 := Nat.le_of_lt hz3_1; have hz3_2 : w2.heap.size < w3.heap.size := lt_below hb3 ltg; have hl3_2 := Nat.le_of_lt hz3_2; have hA3 := bnext (w0 := w) bgo hb3; have hs3 := hA3.size; clear hb3
  obtain ⟨gv, kv, cv, rfl, hkv, hkz⟩ := hv.zero
  have hp := pow_e' he
  have hkn : ¬ ((kv : Int) = 0) := fun h => h0 (hkz.1 (by omega))
  have hkb : ((kv : Int) == 0) = false := by simpa using hkn
  generalize (En : Int) = E at *
  clear hkz h0 hv hkv hkn k0 k1 k2 k3 c0 c1
  have hsm := cell_set_map
  go_wp2_with (first
    | (have := hA6; go_at_call 46; refine (c26c _).mono ?_; rintro x w7 ⟨v7, rfl, hn7, hb7⟩; obtain ⟨hc7, hf7⟩ := bcell hb7; have hz7_0 : w.heap.size < w7.heap.size := lt_below hb7 ltg; have hl7_0 := Nat.le_of_lt hz7_0; have hz7_1 : w.heap.size + 1 < w7.heap.size := lt_below hb7 ltg; have hl7_1 := Nat.le_of_lt hz7_1; have hz7_2 : w2.heap.size < w7.heap.size := lt_below hb7 ltg; have hl7_2 := Nat.le_of_lt hz7_2; have hz7_3 : w5.heap.size < w7.heap.size := lt_below hb7 ltg; have hl7_3 := Nat.le_of_lt hz7_3; have hA7 := bnext (w0 := w) bgo hb7; have hs7 := hA7.size; clear hb7)
    | (have := hA6; go_at_call 35; refine (number_nv hn6.nv (by decide) hS8).mono ?_; rintro x w8 ⟨rfl, rfl⟩)
    | (have := hA4; go_at_call 46; refine (c26b _).mono ?_; rintro x w6 ⟨v6, rfl, hn6, hb6⟩; obtain ⟨hc6, hf6⟩ := bcell hb6; have hz6_0 : w.heap.size < w6.heap.size := lt_below hb6 ltg; have hl6_0 := Nat.le_of_lt hz6_0; have hz6_1 : w.heap.size + 1 < w6.heap.size := lt_below hb6 ltg; have hl6_1 := Nat.le_of_lt hz6_1; have hz6_2 : w2.heap.size < w6.heap.size := lt_below hb6 ltg; have hl6_2 := Nat.le_of_lt hz6_2; have hz6_3 : w5.heap.size < w6.heap.size := lt_below hb6 ltg; have hl6_3 := Nat.le_of_lt hz6_3; have hA6 := bnext (w0 := w) bgo hb6; have hs6 := hA6.size; clear hb6)
    | (go_at_call 47; refine (bits_nv hn7.nv).mono ?_; rintro x w9 ⟨rfl, hb9⟩; obtain ⟨hc9, hf9⟩ := bcell hb9; have hz9_0 : w.heap.size < w9.heap.size := lt_below hb9 ltg; have hl9_0 := Nat.le_of_lt hz9_0; have hz9_1 : w.heap.size + 1 < w9.heap.size := lt_below hb9 ltg; have hl9_1 := Nat.le_of_lt hz9_1; have hz9_2 : w2.heap.size < w9.heap.size := lt_below hb9 ltg; have hl9_2 := Nat.le_of_lt hz9_2; have hz9_3 : w5.heap.size < w9.heap.size := lt_below hb9 ltg; have hl9_3 := Nat.le_of_lt hz9_3; have hA9 := bnext (w0 := w) bgo hb9; have hs9 := hA9.size; clear hb9)
    | (go_at_call 46; refine (c26 _).mono ?_; rintro x w4 ⟨v4, rfl, hn4, hb4⟩; obtain ⟨hc4, hf4⟩ := bcell hb4; have hz4_0 : w.heap.size < w4.heap.size := lt_below hb4 ltg; have hl4_0 := Nat.le_of_lt hz4_0; have hz4_1 : w.heap.size + 1 < w4.heap.size := lt_below hb4 ltg; have hl4_1 := Nat.le_of_lt hz4_1; have hz4_2 : w2.heap.size < w4.heap.size := lt_below hb4 ltg; have hl4_2 := Nat.le_of_lt hz4_2; have hA4 := bnext (w0 := w) bgo hb4; have hs4 := hA4.size; clear hb4)
    | (go_at_call 35; refine (number_nv hn4.nv (by decide) hS9).mono ?_; rintro x w5 ⟨rfl, rfl⟩))
  go_wp2
  exact bodyPost_ret (v := .tuple #[.agg #[.int .i64 3, .bool ((S : Int) == 1), .bool ((Sg : Int) == 0), .int .i64 0, .int .u64 (W4 Pl 0), .int .u64 (W4 Pl 1), .int .u64 (W4 Pl 2), .int .u64 (W4 Pl 3)], .int .i64 0]) (by simp only [results, Tryz.results16]; go_simp) rfl ⟨rfl, bgo⟩
set_option maxHeartbeats 2000000 in
theorem runpack_sub (hE : ((En : Int) == 2 ^ e - 1) = false) (h0 : (En : Int) = 0) :
    Calls Tryz.prog 16 #[.int .i64 n, A4 B] w fun x w' => x = .returned (.tuple #[.agg #[.int .i64 1, .bool ((S : Int) == 1), .bool false, .int .i64 l, .int .u64 (W4 Fr 0), .int .u64 (W4 Fr 1), .int .u64 (W4 Fr 2), .int .u64 (W4 Fr 3)], .int .i64 0]) ∧ Below w.heap.size w w' := by
  go_enter Tryz.func16, Tryz.ntmps16
  go_wp2_with (first
    | (go_at_call 14; refine (c24 _).mono ?_; rintro x w1 ⟨rfl, hb1⟩; obtain ⟨hc1, hf1⟩ := bcell hb1; have hz1_0 : w.heap.size < w1.heap.size := lt_below hb1 ltg; have hl1_0 := Nat.le_of_lt hz1_0; have hz1_1 : w.heap.size + 1 < w1.heap.size := lt_below hb1 ltg; have hl1_1 := Nat.le_of_lt hz1_1; have hA1 := bnext (w0 := w) bgo hb1; have hs1 := hA1.size; clear hb1)
    | (go_at_call 25; refine (c25 _).mono ?_; rintro x w2 ⟨rfl, hb2⟩; obtain ⟨hc2, hf2⟩ := bcell hb2; have hz2_0 : w.heap.size < w2.heap.size := lt_below hb2 ltg; have hl2_0 := Nat.le_of_lt hz2_0; have hz2_1 : w.heap.size + 1 < w2.heap.size := lt_below hb2 ltg; have hl2_1 := Nat.le_of_lt hz2_1; have hA2 := bnext (w0 := w) bgo hb2; have hs2 := hA2.size; clear hb2))
  have k0 : w2.cell? ⟨w.heap.size, 0, none⟩ = some (.int .u64 (W4 B 0)) := (by go_simp)
  have k1 : w2.cell? ⟨w.heap.size, 1, none⟩ = some (.int .u64 (W4 B 1)) := (by go_simp)
  have k2 : w2.cell? ⟨w.heap.size, 2, none⟩ = some (.int .u64 (W4 B 2)) := (by go_simp)
  have k3 : w2.cell? ⟨w.heap.size, 3, none⟩ = some (.int .u64 (W4 B 3)) := (by go_simp)
  refine reg5 (gb := w.heap.size) (gi := w2.heap.size) (f := f) (e := e) (B := B) c0 c1 hEn rfl rfl rfl rfl (by simp; omega) (by simp) (fun i hi => ?_) (by go_simp) ?_
  · have : i = 0 ∨ i = 1 ∨ i = 2 ∨ i = 3 := by omega
    rcases this with rfl | rfl | rfl | rfl <;> go_simp
  intro a w3 v hv h9 h10 hsz hdf hF hb3
  have ha := act_of slots5 11 rfl hsz hdf hF
  rw [ha]
  simp only [slots5, List.foldl_cons, List.foldl_nil, Act.put, List.setIfInBounds_toArray, List.set_cons_succ, List.set_cons_zero, h9, h10]
  generalize slot a 25 = s25
  generalize slot a 26 = s26
  generalize slot a 27 = s27
  generalize slot a 28 = s28
  generalize slot a 29 = s29
  generalize slot a 30 = s30
  generalize slot a 31 = s31
  generalize slot a 32 = s32
  generalize slot a 33 = s33
  clear ha hF hsz hdf h9 h10 a
  obtain ⟨hc3, hf3⟩ := bcell hb3; have hz3_0 : w.heap.size < w3.heap.size := lt_below hb3 ltg; have hl3_0 := Nat.le_of_lt hz3_0; have hz3_1 : w.heap.size + 1 < w3.heap.size := lt_below hb3 ltg; have hl3_1 := Nat.le_of_lt hz3_1; have hz3_2 : w2.heap.size < w3.heap.size := lt_below hb3 ltg; have hl3_2 := Nat.le_of_lt hz3_2; have hA3 := bnext (w0 := w) bgo hb3; have hs3 := hA3.size; clear hb3
  obtain ⟨gv, kv, cv, rfl, hkv, hkz⟩ := hv.zero
  have hp := pow_e' he
  generalize (En : Int) = E at *
  clear hkz hkv k0 k1 k2 k3 c0 c1
  have hsm := cell_set_map
  go_wp2_with (first
    | (go_at_call 46; refine (c26 _).mono ?_; rintro x w4 ⟨v4, rfl, hn4, hb4⟩; replace hv := hv.next hb4; obtain ⟨hc4, hf4⟩ := bcell hb4; have hz4_0 : w.heap.size < w4.heap.size := lt_below hb4 ltg; have hl4_0 := Nat.le_of_lt hz4_0; have hz4_1 : w.heap.size + 1 < w4.heap.size := lt_below hb4 ltg; have hl4_1 := Nat.le_of_lt hz4_1; have hz4_2 : w2.heap.size < w4.heap.size := lt_below hb4 ltg; have hl4_2 := Nat.le_of_lt hz4_2; have hA4 := bnext (w0 := w) bgo hb4; have hs4 := hA4.size; clear hb4)
    | (go_at_call 35; refine (number_nv hn4.nv (by decide) hS9).mono ?_; rintro x w5 ⟨rfl, rfl⟩))
  go_region_with (go_at_call 47; refine (bits_nv (hv.nv.next bgo)).mono ?_; rintro x w9 ⟨rfl, hb9⟩; obtain ⟨hc9, hf9⟩ := bcell hb9; have hz9_0 : w.heap.size < w9.heap.size := lt_below hb9 ltg; have hl9_0 := Nat.le_of_lt hz9_0; have hz9_1 : w.heap.size + 1 < w9.heap.size := lt_below hb9 ltg; have hl9_1 := Nat.le_of_lt hz9_1; have hz9_2 : w2.heap.size < w9.heap.size := lt_below hb9 ltg; have hl9_2 := Nat.le_of_lt hz9_2; have hz9_3 : w5.heap.size < w9.heap.size := lt_below hb9 ltg; have hl9_3 := Nat.le_of_lt hz9_3; have hA9 := bnext (w0 := w) bgo hb9; have hs9 := hA9.size; clear hb9)
  all_goals
    go_wp2
    exact bodyPost_ret (v := .tuple #[.agg #[.int .i64 1, .bool ((S : Int) == 1), .bool false, .int .i64 l, .int .u64 (W4 Fr 0), .int .u64 (W4 Fr 1), .int .u64 (W4 Fr 2), .int .u64 (W4 Fr 3)], .int .i64 0]) (by simp only [results, Tryz.results16]; go_simp) rfl ⟨rfl, bgo⟩
end
end Go.Proofs.YtckkibmehjlgaaaGreatDoor

namespace Go.Proofs.YtckkibmehjlgaaaGreatDoor

theorem rd_sign {n : Int} (s : Bool) (N : Nat) {D : Nat} (x : Int) (hb : binN n) (hD : D ≠ 0) : rdV n 0 s N D x = rdV n 0 false N D x + sgN n s := by
  cases s
  · unfold sgN; simp
  · have := (rd_turn 0 N x hb hD).1
    rw [show othD 0 = 0 by decide] at this
    rw [this]; unfold sgN; simp
theorem rd_quad {n : Int} (N : Nat) {D : Nat} (x : Int) (hD : D ≠ 0) : rdV n 0 false (N * 4) (D * 4) x = rdV n 0 false N D x := by
  have := (rd_shift n 0 false N hD 2 2 x).1
  rw [show x + (((2 : Nat) : Int) - ((2 : Nat) : Int)) = x by omega] at this
  exact this
/-- the value of a floor, to the nearest -/
theorem rd_step {n : Int} {N D j p : Nat} {q x : Int} (hb : binN n) (hN : N ≠ 0) (hD : D ≠ 0) (hP : rP n 0 false N D x = p) (ht : p ≤ tpN n) : rdV n 0 false N D x = p := by
  rw [r_pat 0 false x hb hN hD, hP]
  unfold capV sgN
  have : inB 0 false = true := by decide
  rw [this]
  simp
  omega
set_option maxHeartbeats 800000 in
theorem rd_far {n : Int} {s : Bool} {q : Int} {k N D : Nat} (hbn : binN n) (h : isD (fN n) (leastN n) (mostN n) ⟨1, s, false, q, k⟩) (hk : k ≠ 0) (hD : D ≠ 0)
    (hw : (k * D ≤ N ∧ wiN (evK k) (4 * N - 4 * (k * D)) (2 * D) = false) ∨ (N ≤ k * D ∧ wiN (evK k) (4 * (k * D) - 4 * N) (lwN n q k * D) = false)) :
    rdV n 0 s N D q ≠ pkV n ⟨1, s, false, q, k⟩ := by
  have hno := tp_above hbn h
  have hF := bin_fm hbn
  have hf1 : 1 ≤ fN n := by
    rcases bin_cases hbn with rfl | rfl | rfl | rfl | rfl | rfl <;> decide
  rw [rd_sign s N q hbn hD, pk_fin hbn h]
  intro he
  have he : rdV n 0 false N D q = (q - leastN n).toNat * 2 ^ fN n + k := Nat.add_right_cancel he
  have hDp : 0 < D := Nat.pos_of_ne_zero hD
  have hD4 : D * 4 ≠ 0 := by omega
  obtain ⟨hev, hod⟩ := ev_odd k hk
  obtain ⟨hk1, hx1, hx2, hx3⟩ : k < 2 ^ (fN n + 1) ∧ leastN n ≤ q ∧ q ≤ mostN n ∧ (2 ^ fN n ≤ k ∨ q = leastN n) := by
    rcases h with ⟨_, _, hk1, hx1, hx2, hx3⟩ | ⟨hc, _⟩ | ⟨hc, _⟩
    · exact ⟨hk1, hx1, hx2, hx3⟩
    · exact absurd (show (1 : Int) = 2 from hc) (by decide)
    · exact absurd (show (1 : Int) = 3 from hc) (by decide)
  obtain ⟨j, rfl⟩ : ∃ j, k = j + 1 := ⟨k - 1, by omega⟩
  rw [Nat.add_sub_cancel] at hev hod
  have hj : (j + 1) * D = j * D + D := Nat.succ_mul _ _
  have hj4 : j * (D * 4) = 4 * (j * D) := by rw [← Nat.mul_assoc, Nat.mul_comm]
  have hj5 : (j + 1) * (D * 4) = 4 * (j * D) + 4 * D := by rw [Nat.succ_mul, hj4]; omega
  have hj6 : (j + 1 + 1) * (D * 4) = 4 * (j * D) + 4 * D + 4 * D := by rw [Nat.succ_mul, hj5]; omega
  rw [hj] at hw
  rcases hw with ⟨hge, hw⟩ | ⟨hle, hw⟩
  · -- above
    have hlt : 2 * D < 4 * N - 4 * (j * D + D) ∨ (2 * D ≤ 4 * N - 4 * (j * D + D) ∧ evK (j + 1) = false) := by
      unfold wiN at hw
      simp at hw
      cases hc : evK (j + 1)
      · exact Or.inr ⟨by omega, rfl⟩
      · left
        have := hw.2
        rw [hc] at this
        have h3 : ¬ 4 * N - 4 * (j * D + D) = 2 * D := fun h => absurd (this h) (by decide)
        omega
    obtain ⟨t, ht⟩ : ∃ t, (evK (j + 1) = true ∧ t = 1) ∨ (evK (j + 1) = false ∧ t = 0) := by
      cases hc : evK (j + 1)
      · exact ⟨0, Or.inr ⟨rfl, rfl⟩⟩
      · exact ⟨1, Or.inl ⟨rfl, rfl⟩⟩
    have hN1 : 4 * (j * D) + 4 * D + 2 * D + t ≤ N * 4 := by
      rcases ht with ⟨h1, h2⟩ | ⟨h1, h2⟩ <;> rw [h1] at hlt <;> simp at hlt <;> omega
    have ht1 : t ≤ 1 := by omega
    have hP := rP_floor (n := n) 0 false (N := 4 * (j * D) + 4 * D + 2 * D + t) (D := D * 4) (j := j + 1) (q := q) hbn hx1 hx2 hk1 hx3 (by omega) hD4 (by omega) (by omega)
    have hf : faB 0 false (decide ((j + 1) % 2 = 1)) (4 * (j * D) + 4 * D + 2 * D + t - (j + 1) * (D * 4)) (D * 4) = true := by
      rw [hj5, show 4 * (j * D) + 4 * D + 2 * D + t - (4 * (j * D) + 4 * D) = 2 * D + t by omega]
      unfold faB
      rcases ht with ⟨h1, h2⟩ | ⟨h1, h2⟩
      · simp; omega
      · have := (hod h1).1
        simp; omega
    rw [hf, if_pos rfl] at hP
    have hv := rd_step (j := j) (q := q) hbn (by omega) hD4 hP (by omega)
    have hmo := rd_mono (n := n) 0 (4 * (j * D) + 4 * D + 2 * D + t) (N * 4) (D := D * 4) q hbn hD4 hN1
    rw [hv, rd_quad N q hD, he] at hmo
    omega
  · cases hnb : nbB n q (j + 1)
    · rw [show lwN n q (j + 1) = 2 by unfold lwN; rw [hnb]; rfl] at hw
      have hlt : 2 * D < 4 * (j * D + D) - 4 * N ∨ (2 * D ≤ 4 * (j * D + D) - 4 * N ∧ evK (j + 1) = false) := by
        unfold wiN at hw
        simp at hw
        cases hc : evK (j + 1)
        · exact Or.inr ⟨by omega, rfl⟩
        · left
          have := hw.2
          rw [hc] at this
          have h3 : ¬ 4 * (j * D + D) - 4 * N = 2 * D := fun h => absurd (this h) (by decide)
          omega
      have hj2 : 2 ^ fN n ≤ j ∨ q = leastN n := by
        unfold nbB at hnb
        simp at hnb
        rcases hx3 with h | h
        · by_cases hq : q = leastN n
          · exact Or.inr hq
          · have := hnb (by omega)
            omega
        · exact Or.inr h
      obtain ⟨t, ht⟩ : ∃ t, (evK (j + 1) = true ∧ t = 1) ∨ (evK (j + 1) = false ∧ t = 0) := by
        cases hc : evK (j + 1)
        · exact ⟨0, Or.inr ⟨rfl, rfl⟩⟩
        · exact ⟨1, Or.inl ⟨rfl, rfl⟩⟩
      have hN1 : N * 4 ≤ 4 * (j * D) + 2 * D - t := by
        rcases ht with ⟨h1, h2⟩ | ⟨h1, h2⟩ <;> rw [h1] at hlt <;> simp at hlt <;> omega
      have ht1 : t ≤ 1 := by omega
      have hbig : 2 * (4 * (j * D) + 2 * D - t) ≥ D * 4 := by
        rcases ht with ⟨h1, h2⟩ | ⟨h1, h2⟩
        · have h3 := (hev h1).2
          have : 1 * D ≤ j * D := Nat.mul_le_mul_right _ (by omega)
          omega
        · omega
      have hP := rP_floor (n := n) 0 false (N := 4 * (j * D) + 2 * D - t) (D := D * 4) (j := j) (q := q) hbn hx1 hx2 (by omega) hj2 hbig hD4 (by omega) (by omega)
      have hf : faB 0 false (decide (j % 2 = 1)) (4 * (j * D) + 2 * D - t - j * (D * 4)) (D * 4) = false := by
        rw [hj4, show 4 * (j * D) + 2 * D - t - 4 * (j * D) = 2 * D - t by omega]
        unfold faB
        rcases ht with ⟨h1, h2⟩ | ⟨h1, h2⟩
        · simp; omega
        · have := (hod h1).2
          simp; omega
      rw [hf] at hP
      have hP2 : rP n 0 false (4 * (j * D) + 2 * D - t) (D * 4) q = (q - leastN n).toNat * 2 ^ fN n + j := by rw [hP, if_neg (by decide), Nat.add_zero]
      have hz : 4 * (j * D) + 2 * D - t ≠ 0 := by omega
      have hv := rd_step (j := j) (q := q) hbn hz hD4 hP2 (by omega)
      have hmo := rd_mono (n := n) 0 (N * 4) (4 * (j * D) + 2 * D - t) (D := D * 4) q hbn hD4 hN1
      rw [hv, rd_quad N q hD, he] at hmo
      omega
    · rw [show lwN n q (j + 1) = 1 by unfold lwN; rw [hnb]; rfl] at hw
      unfold nbB at hnb
      simp at hnb
      obtain ⟨hq, hkf⟩ := hnb
      have hke : evK (j + 1) = true := by
        unfold evK; rw [hkf]
        obtain ⟨f, hf⟩ : ∃ f, fN n = f + 1 := ⟨fN n - 1, by omega⟩
        rw [hf, Nat.pow_succ]; simp
      have hlt : D < 4 * (j * D + D) - 4 * N := by
        unfold wiN at hw
        rw [hke] at hw
        simp at hw
        omega
      have e := (rd_shift n 0 false N hD 1 0 (q - 1)).1
      rw [Nat.pow_zero, Nat.mul_one, Nat.pow_one, show q - 1 + (((1 : Nat) : Int) - ((0 : Nat) : Int)) = q by omega] at e
      rw [← e] at he
      have h2f : 2 ^ (fN n + 1) = 2 * 2 ^ fN n := by rw [Nat.pow_succ, Nat.mul_comm]
      have hj7 : (2 * j + 1) * (D * 4) = 8 * (j * D) + 4 * D := by rw [Nat.add_mul, Nat.one_mul, Nat.mul_assoc, hj4]; omega
      have hj8 : (2 * j + 1 + 1) * (D * 4) = 8 * (j * D) + 4 * D + 4 * D := by rw [Nat.succ_mul, hj7]; omega
      have hP := rP_floor (n := n) 0 false (N := 8 * (j * D) + 4 * D + 2 * D - 1) (D := D * 4) (j := 2 * j + 1) (q := q - 1) hbn (by omega) (by omega) (by omega) (Or.inl (by omega)) (by omega) hD4 (by omega) (by omega)
      have hf : faB 0 false (decide ((2 * j + 1) % 2 = 1)) (8 * (j * D) + 4 * D + 2 * D - 1 - (2 * j + 1) * (D * 4)) (D * 4) = false := by
        rw [hj7, show 8 * (j * D) + 4 * D + 2 * D - 1 - (8 * (j * D) + 4 * D) = 2 * D - 1 by omega]
        unfold faB
        simp; omega
      rw [hf] at hP
      have e3 : (q - leastN n).toNat = (q - 1 - leastN n).toNat + 1 := by omega
      have e4 : ((q - 1 - leastN n).toNat + 1) * 2 ^ fN n = (q - 1 - leastN n).toNat * 2 ^ fN n + 2 ^ fN n := Nat.succ_mul _ _
      rw [e3, e4] at he hno
      have hP2 : rP n 0 false (8 * (j * D) + 4 * D + 2 * D - 1) (D * 4) (q - 1) = (q - 1 - leastN n).toNat * 2 ^ fN n + (2 * j + 1) := by rw [hP, if_neg (by decide), Nat.add_zero]
      have hz : 8 * (j * D) + 4 * D + 2 * D - 1 ≠ 0 := by omega
      have hv := rd_step (j := j) (q := q) hbn hz hD4 hP2 (by omega)
      have hmo := rd_mono (n := n) 0 (N * 2 * 4) (8 * (j * D) + 4 * D + 2 * D - 1) (D := D * 4) (q - 1) hbn hD4 (by omega)
      rw [hv, rd_quad (N * 2) (q - 1) hD, he] at hmo
      omega
end Go.Proofs.YtckkibmehjlgaaaGreatDoor

namespace Go.Proofs.YtckkibmehjlgaaaGreatDoor
open Go.RowKit

attribute [local irreducible] W4
section
variable (n : Int) (Bp : Nat) (c : Int) (s g : Bool) (x : Int) (k : Nat) (w : World) (hT : Tab w) (hk : k < 2 ^ 256)
include hT
set_option maxHeartbeats 2000000 in
theorem dig10_e (E : Int) (hE : (E != 0) = true) (c22 : ∀ W, Tab W → Calls Tryz.prog 22 #[.int .i64 n, A4 Bp] W fun r w' => r = .returned (.tuple #[DV c s g x k, .int .i64 E]) ∧ Below W.heap.size W w') :
    Calls Tryz.prog 10 #[.int .i64 n, A4 Bp] w fun r w' => r = .returned (.tuple #[.string (B []), .int .i64 0, .int .i64 E]) ∧ Below w.heap.size w w' := by
  have hsm := cell_set_map
  unfold DV A4 at *
  go_enter Tryz.func10, Tryz.ntmps10
  go_wp2_with (go_at_call 22; refine (c22 _ (hT.go bgo)).mono ?_; rintro r w1 ⟨rfl, hb1⟩; obtain ⟨hc1, hf1⟩ := bcell hb1; have hz1_0 : w.heap.size < w1.heap.size := lt_below hb1 ltg; have hl1_0 := Nat.le_of_lt hz1_0; have hA1 := bnext (w0 := w) bgo hb1; have hs1 := hA1.size; clear hb1)
  exact bodyPost_ret (v := .tuple #[.string ⟨#[]⟩, .int .i64 0, .int .i64 E]) (by simp only [results, Tryz.results10]; go_simp) rfl ⟨rfl, bgo⟩
variable (c22 : ∀ W, Tab W → Calls Tryz.prog 22 #[.int .i64 n, A4 Bp] W fun r w' => r = .returned (.tuple #[DV c s g x k, .int .i64 0]) ∧ Below W.heap.size W w')
include c22
set_option maxHeartbeats 2000000 in
theorem dig10_c (hc : (c != 1) = true) :
    Calls Tryz.prog 10 #[.int .i64 n, A4 Bp] w fun r w' => r = .returned (.tuple #[.string (B []), .int .i64 0, .int .i64 6]) ∧ Below w.heap.size w w' := by
  have hsm := cell_set_map
  unfold DV A4 at *
  go_enter Tryz.func10, Tryz.ntmps10
  go_wp2_with (go_at_call 22; refine (c22 _ (hT.go bgo)).mono ?_; rintro r w1 ⟨rfl, hb1⟩; obtain ⟨hc1, hf1⟩ := bcell hb1; have hz1_0 : w.heap.size < w1.heap.size := lt_below hb1 ltg; have hl1_0 := Nat.le_of_lt hz1_0; have hA1 := bnext (w0 := w) bgo hb1; have hs1 := hA1.size; clear hb1)
  exact bodyPost_ret (v := .tuple #[.string ⟨#[]⟩, .int .i64 0, .int .i64 6]) (by simp only [results, Tryz.results10]; go_simp) rfl ⟨rfl, bgo⟩
variable (hc : c = 1)
include hc
set_option maxHeartbeats 2000000 in
theorem dig10_0 (c23 : ∀ W, Calls Tryz.prog 23 #[DV 1 s g x k] W fun r w' => r = .returned (.bool true) ∧ Below W.heap.size W w') :
    Calls Tryz.prog 10 #[.int .i64 n, A4 Bp] w fun r w' => r = .returned (.tuple #[.string (B []), .int .i64 0, .int .i64 6]) ∧ Below w.heap.size w w' := by
  subst hc
  have hsm := cell_set_map
  unfold DV A4 at *
  go_enter Tryz.func10, Tryz.ntmps10
  go_wp2_with (first
    | (go_at_call 22; refine (c22 _ (hT.go bgo)).mono ?_; rintro r w1 ⟨rfl, hb1⟩; obtain ⟨hc1, hf1⟩ := bcell hb1; have hz1_0 : w.heap.size < w1.heap.size := lt_below hb1 ltg; have hl1_0 := Nat.le_of_lt hz1_0; have hA1 := bnext (w0 := w) bgo hb1; have hs1 := hA1.size; clear hb1)
    | (go_at_call 23; refine (c23 _).mono ?_; rintro r w2 ⟨rfl, hb2⟩; obtain ⟨hc2, hf2⟩ := bcell hb2; have hz2_0 : w.heap.size < w2.heap.size := lt_below hb2 ltg; have hl2_0 := Nat.le_of_lt hz2_0; have hz2_1 : w1.heap.size < w2.heap.size := lt_below hb2 ltg; have hl2_1 := Nat.le_of_lt hz2_1; have hA2 := bnext (w0 := w) bgo hb2; have hs2 := hA2.size; clear hb2))
  exact bodyPost_ret (v := .tuple #[.string ⟨#[]⟩, .int .i64 0, .int .i64 6]) (by simp only [results, Tryz.results10]; go_simp) rfl ⟨rfl, bgo⟩
set_option maxHeartbeats 2000000 in
theorem dig10_k (c23 : ∀ W, Calls Tryz.prog 23 #[DV 1 s g x k] W fun r w' => r = .returned (.bool false) ∧ Below W.heap.size W w') (D : List UInt8) (e : Int) (he : -100000 ≤ e ∧ e ≤ 100000) (hD : D.length ≤ 1000)
    (c24 : ∀ W, Tab W → Calls Tryz.prog 24 #[.int .i64 n, DV 1 s g x k] W fun r w' => r = .returned (.tuple #[.string (B D), .int .i64 e]) ∧ Below W.heap.size W w') :
    Calls Tryz.prog 10 #[.int .i64 n, A4 Bp] w fun r w' => r = .returned (.tuple #[.string (B D), .int .i64 (e + 1 - D.length), .int .i64 0]) ∧ Below w.heap.size w w' := by
  subst hc
  have hsm := cell_set_map
  have hsz : (B D).size = D.length := B_size D
  unfold DV A4 at *
  go_enter Tryz.func10, Tryz.ntmps10
  go_wp2_with (first
    | (go_at_call 22; refine (c22 _ (hT.go bgo)).mono ?_; rintro r w1 ⟨rfl, hb1⟩; obtain ⟨hc1, hf1⟩ := bcell hb1; have hz1_0 : w.heap.size < w1.heap.size := lt_below hb1 ltg; have hl1_0 := Nat.le_of_lt hz1_0; have hA1 := bnext (w0 := w) bgo hb1; have hs1 := hA1.size; clear hb1)
    | (go_at_call 23; refine (c23 _).mono ?_; rintro r w2 ⟨rfl, hb2⟩; obtain ⟨hc2, hf2⟩ := bcell hb2; have hz2_0 : w.heap.size < w2.heap.size := lt_below hb2 ltg; have hl2_0 := Nat.le_of_lt hz2_0; have hz2_1 : w1.heap.size < w2.heap.size := lt_below hb2 ltg; have hl2_1 := Nat.le_of_lt hz2_1; have hA2 := bnext (w0 := w) bgo hb2; have hs2 := hA2.size; clear hb2)
    | (go_at_call 24; refine (c24 _ (hT.go bgo)).mono ?_; rintro r w3 ⟨rfl, hb3⟩; obtain ⟨hc3, hf3⟩ := bcell hb3; have hz3_0 : w.heap.size < w3.heap.size := lt_below hb3 ltg; have hl3_0 := Nat.le_of_lt hz3_0; have hz3_1 : w1.heap.size < w3.heap.size := lt_below hb3 ltg; have hl3_1 := Nat.le_of_lt hz3_1; have hA3 := bnext (w0 := w) bgo hb3; have hs3 := hA3.size; clear hb3))
  exact bodyPost_ret (v := .tuple #[.string (B D), .int .i64 (e + 1 - D.length), .int .i64 0]) (by simp only [results, Tryz.results10]; go_simp) rfl ⟨rfl, bgo⟩
end
end Go.Proofs.YtckkibmehjlgaaaGreatDoor

namespace Go.Proofs.YtckkibmehjlgaaaGreatDoor
open Go.RowKit
attribute [local irreducible] W4 NT NV
section
variable (n : Int) (B : Nat) (f e Fr En S : Nat) (l m pay wd : Int) (nm : ByteArray) (w : World) (hf : 2 ≤ f ∧ f ≤ 240) (he : e ≤ 15) (hEn : En < 9223372036854775808) (hS9 : S < 9223372036854775808)
  (c24 : ∀ w, Calls Tryz.prog 14 #[.int .i64 n, A4 B] w fun x w' => x = .returned (.bool true) ∧ Below w.heap.size w w')
  (c25 : ∀ w, Calls Tryz.prog 25 #[.int .i64 n] w fun x w' => x = .returned (.tuple #[.agg #[.int .i64 n, .string nm, .int .i64 2, .int .i64 wd, .int .i64 ((f : Int) + 1), .int .i64 e, .int .i64 l, .int .i64 m, .int .i64 pay, .bool false], .int .i64 0]) ∧ Below w.heap.size w w')
  (c0 : ∀ w, Calls Tryz.prog 46 #[A4 B, .int .i64 0, .int .i64 f] w fun x w' => ∃ r, x = .returned r ∧ NT 19 Fr r w' ∧ Below w.heap.size w w')
  (c1 : ∀ w, Calls Tryz.prog 46 #[A4 B, .int .i64 f, .int .i64 e] w fun x w' => ∃ r, x = .returned r ∧ NT 19 En r w' ∧ Below w.heap.size w w')
  (c26 : ∀ w, Calls Tryz.prog 46 #[A4 B, .int .i64 ((f : Int) + e), .int .i64 1] w fun x w' => ∃ r, x = .returned r ∧ NT 19 S r w' ∧ Below w.heap.size w w')
include hf he hEn hS9 c24 c25 c0 c1 c26
set_option maxHeartbeats 2000000 in
theorem runpack_norm (hE : ((En : Int) == 2 ^ e - 1) = false) (h0 : ((En : Int) == 0) = false) (hl : -1000000 ≤ l ∧ l ≤ 0) (hEb : (En : Int) ≤ 32768) (Pw : Nat)
  (c30 : ∀ w, Calls Tryz.prog 48 #[.int .u64 2, .int .i64 f] w fun x w' => ∃ r, x = .returned r ∧ NV 50000 Pw r w' ∧ Below w.heap.size w w') :
    Calls Tryz.prog 16 #[.int .i64 n, A4 B] w fun x w' => x = .returned (.tuple #[.agg #[.int .i64 1, .bool ((S : Int) == 1), .bool false, .int .i64 (l - 1 + En), .int .u64 (W4 (Fr + Pw) 0), .int .u64 (W4 (Fr + Pw) 1), .int .u64 (W4 (Fr + Pw) 2), .int .u64 (W4 (Fr + Pw) 3)], .int .i64 0]) ∧ Below w.heap.size w w' := by
  go_enter Tryz.func16, Tryz.ntmps16
  go_wp2_with (first
    | (go_at_call 14; refine (c24 _).mono ?_; rintro x w1 ⟨rfl, hb1⟩; obtain ⟨hc1, hf1⟩ := bcell hb1; have hz1_0 : w.heap.size < w1.heap.size := lt_below hb1 ltg; have hl1_0 := Nat.le_of_lt hz1_0; have hz1_1 : w.heap.size + 1 < w1.heap.size := lt_below hb1 ltg; have hl1_1 := Nat.le_of_lt hz1_1; have hA1 := bnext (w0 := w) bgo hb1; have hs1 := hA1.size; clear hb1)
    | (go_at_call 25; refine (c25 _).mono ?_; rintro x w2 ⟨rfl, hb2⟩; obtain ⟨hc2, hf2⟩ := bcell hb2; have hz2_0 : w.heap.size < w2.heap.size := lt_below hb2 ltg; have hl2_0 := Nat.le_of_lt hz2_0; have hz2_1 : w.heap.size + 1 < w2.heap.size := lt_below hb2 ltg; have hl2_1 := Nat.le_of_lt hz2_1; have hA2 := bnext (w0 := w) bgo hb2; have hs2 := hA2.size; clear hb2))
  have k0 : w2.cell? ⟨w.heap.size, 0, none⟩ = some (.int .u64 (W4 B 0)) := (by go_simp)
  have k1 : w2.cell? ⟨w.heap.size, 1, none⟩ = some (.int .u64 (W4 B 1)) := (by go_simp)
  have k2 : w2.cell? ⟨w.heap.size, 2, none⟩ = some (.int .u64 (W4 B 2)) := (by go_simp)
  have k3 : w2.cell? ⟨w.heap.size, 3, none⟩ = some (.int .u64 (W4 B 3)) := (by go_simp)
  refine reg5 (gb := w.heap.size) (gi := w2.heap.size) (f := f) (e := e) (B := B) c0 c1 hEn rfl rfl rfl rfl (by simp; omega) (by simp) (fun i hi => ?_) (by go_simp) ?_
  · have : i = 0 ∨ i = 1 ∨ i = 2 ∨ i = 3 := by omega
    rcases this with rfl | rfl | rfl | rfl <;> go_simp
  intro a w3 v hv h9 h10 hsz hdf hF hb3
  have ha := act_of slots5 11 rfl hsz hdf hF
  rw [ha]
  simp only [slots5, List.foldl_cons, List.foldl_nil, Act.put, List.setIfInBounds_toArray, List.set_cons_succ, List.set_cons_zero, h9, h10]
  generalize slot a 25 = s25
  generalize slot a 26 = s26
  generalize slot a 27 = s27
  generalize slot a 28 = s28
  generalize slot a 29 = s29
  generalize slot a 30 = s30
  generalize slot a 31 = s31
  generalize slot a 32 = s32
  generalize slot a 33 = s33
  clear ha hF hsz hdf h9 h10 a
  obtain ⟨hc3, hf3⟩ := bcell hb3; have hz3_0 : w.heap.size < w3.heap.size := lt_below hb3 ltg; have hl3_0 := Nat.le_of_lt hz3_0; have hz3_1 : w.heap.size + 1 < w3.heap.size := lt_below hb3 ltg; have hl3_1 := Nat.le_of_lt hz3_1; have hz3_2 : w2.heap.size < w3.heap.size := lt_below hb3 ltg; have hl3_2 := Nat.le_of_lt hz3_2; have hA3 := bnext (w0 := w) bgo hb3; have hs3 := hA3.size; clear hb3
  obtain ⟨gv, kv, cv, rfl, hkv, hkz⟩ := hv.zero
  have hp := pow_e' he
  have hE0 : (0 : Int) ≤ En := by omega
  clear hkz hkv k0 k1 k2 k3 c0 c1
  have hsm := cell_set_map
  go_wp2_with (first
    | (go_at_call 46; refine (c26 _).mono ?_; rintro x w4 ⟨v4, rfl, hn4, hb4⟩; replace hv := hv.next hb4; obtain ⟨hc4, hf4⟩ := bcell hb4; have hz4_0 : w.heap.size < w4.heap.size := lt_below hb4 ltg; have hl4_0 := Nat.le_of_lt hz4_0; have hz4_1 : w.heap.size + 1 < w4.heap.size := lt_below hb4 ltg; have hl4_1 := Nat.le_of_lt hz4_1; have hz4_2 : w2.heap.size < w4.heap.size := lt_below hb4 ltg; have hl4_2 := Nat.le_of_lt hz4_2; have hA4 := bnext (w0 := w) bgo hb4; have hs4 := hA4.size; clear hb4)
    | (go_at_call 35; refine (number_nv hn4.nv (by decide) hS9).mono ?_; rintro x w5 ⟨rfl, rfl⟩))
  go_region_with (first
    | (go_at_call 48; refine (c30 _).mono ?_; rintro x w6 ⟨v6, rfl, hn6, hb6⟩; replace hv := hv.next (bnext bgo hb6); obtain ⟨hc6, hf6⟩ := bcell hb6; have hz6_0 : w.heap.size < w6.heap.size := lt_below hb6 ltg; have hl6_0 := Nat.le_of_lt hz6_0; have hz6_1 : w.heap.size + 1 < w6.heap.size := lt_below hb6 ltg; have hl6_1 := Nat.le_of_lt hz6_1; have hz6_2 : w2.heap.size < w6.heap.size := lt_below hb6 ltg; have hl6_2 := Nat.le_of_lt hz6_2; have hz6_3 : w5.heap.size < w6.heap.size := lt_below hb6 ltg; have hl6_3 := Nat.le_of_lt hz6_3; have hA6 := bnext (w0 := w) bgo hb6; have hs6 := hA6.size; clear hb6)
    | (go_at_call 18; refine (radd_nv (by decide) (by decide) hv.nv hn6).mono ?_; rintro x w7 ⟨v7, rfl, hn7, hb7⟩; obtain ⟨hc7, hf7⟩ := bcell hb7; have hz7_0 : w.heap.size < w7.heap.size := lt_below hb7 ltg; have hl7_0 := Nat.le_of_lt hz7_0; have hz7_1 : w.heap.size + 1 < w7.heap.size := lt_below hb7 ltg; have hl7_1 := Nat.le_of_lt hz7_1; have hz7_2 : w2.heap.size < w7.heap.size := lt_below hb7 ltg; have hl7_2 := Nat.le_of_lt hz7_2; have hz7_3 : w5.heap.size < w7.heap.size := lt_below hb7 ltg; have hl7_3 := Nat.le_of_lt hz7_3; have hA7 := bnext (w0 := w) bgo hb7; have hs7 := hA7.size; clear hb7)
    | (go_at_call 47; refine (bits_nv hn7).mono ?_; rintro x w9 ⟨rfl, hb9⟩; obtain ⟨hc9, hf9⟩ := bcell hb9; have hz9_0 : w.heap.size < w9.heap.size := lt_below hb9 ltg; have hl9_0 := Nat.le_of_lt hz9_0; have hz9_1 : w.heap.size + 1 < w9.heap.size := lt_below hb9 ltg; have hl9_1 := Nat.le_of_lt hz9_1; have hz9_2 : w2.heap.size < w9.heap.size := lt_below hb9 ltg; have hl9_2 := Nat.le_of_lt hz9_2; have hz9_3 : w5.heap.size < w9.heap.size := lt_below hb9 ltg; have hl9_3 := Nat.le_of_lt hz9_3; have hA9 := bnext (w0 := w) bgo hb9; have hs9 := hA9.size; clear hb9))
  all_goals
    go_wp2
    exact bodyPost_ret (v := .tuple #[.agg #[.int .i64 1, .bool ((S : Int) == 1), .bool false, .int .i64 (l - 1 + En), .int .u64 (W4 (Fr + Pw) 0), .int .u64 (W4 (Fr + Pw) 1), .int .u64 (W4 (Fr + Pw) 2), .int .u64 (W4 (Fr + Pw) 3)], .int .i64 0]) (by simp only [results, Tryz.results16]; go_simp) rfl ⟨rfl, bgo⟩
end
theorem rpow_nv (f : Nat) (w : World) (hf : f ≤ 12000) : Calls Tryz.prog 48 #[.int .u64 2, .int .i64 f] w fun x w' => ∃ r, x = .returned r ∧ NV 50000 (2 ^ f) r w' ∧ Below w.heap.size w w' := by
  refine (rpow_any 2 f w (by decide) hf).mono ?_
  rintro x w' ⟨g, k, cap, z, rfl, hk, hN, hv, hb⟩
  refine ⟨_, rfl, ?_, hb⟩
  unfold NV
  exact ⟨g, k, cap, z, rfl, hk, hN, by rw [hv]; simp⟩
theorem bin_more {n : Int} (h : binN n) : numN n = n ∧ denseN n = false := by
  rcases bin_cases h with rfl | rfl | rfl | rfl | rfl | rfl <;> exact ⟨by decide, by decide⟩
theorem runpack_ok (n : Int) (B : Nat) (w : World) (hB : B < 2 ^ 256) (h : goodN n B) :
    Calls Tryz.prog 16 #[.int .i64 n, A4 B] w fun x w' => x = .returned (.tuple #[(unp (fN n) (eN n) (leastN n) B).v, .int .i64 0]) ∧ Below w.heap.size w w' := by
  have hF := bin_fm h.1
  obtain ⟨hok, hb2, hpr, hex, hwd, hpy⟩ := bin_fields h.1
  obtain ⟨hnum, hden⟩ := bin_more h.1
  have c24 := fun w => rgood_any n B hB w
  rw [decide_eq_true h] at c24
  have c25 := fun w => rofv_any n w
  rw [show infoE n = 0 from if_pos hok, hnum, hb2, hpr, hex, hden] at c25
  have hf : 2 ≤ fN n ∧ fN n ≤ 240 := ⟨hF.f2, hF.f240⟩
  have he := hF.e15
  have hfe := hF.fe
  have hp := pow_e hF.e2 hF.e15
  have hpc : ((2 : Int) ^ eN n) = ((2 ^ eN n : Nat) : Int) := by simp
  have hEl : B / 2 ^ fN n % 2 ^ eN n < 2 ^ eN n := Nat.mod_lt _ (Nat.two_pow_pos _)
  have c0 := fun w => field_any B 0 (fN n) w hB (by decide) (by omega)
  rw [show ((0 : Nat) : Int) = 0 from rfl, Nat.pow_zero, Nat.div_one] at c0
  have c1 := fun w => field_any B (fN n) (eN n) w hB (by omega) (by omega)
  have c26 := fun w => field_any B (fN n + eN n) 1 w hB (by omega) (by omega)
  rw [Int.natCast_add, show ((1 : Nat) : Int) = 1 from rfl, Nat.pow_one] at c26
  have hS9 : B / 2 ^ (fN n + eN n) % 2 < 9223372036854775808 := by omega
  have hEn : B / 2 ^ fN n % 2 ^ eN n < 9223372036854775808 := by rw [hpc] at hp; omega
  unfold unp
  by_cases h1 : B / 2 ^ fN n % 2 ^ eN n = 2 ^ eN n - 1
  · rw [if_pos h1]
    have hE : (((B / 2 ^ fN n % 2 ^ eN n : Nat) : Int) == 2 ^ eN n - 1) = true := by
      rw [hpc] at hp ⊢; rw [h1]; simp; omega
    unfold spc
    by_cases h2 : B % 2 ^ fN n = 0
    · rw [if_pos h2]
      have := runpack_inf n B (fN n) (eN n) _ _ _ _ _ _ _ _ w hf he hEn hS9 c24 c25 c0 c1 c26 hE h2
      have e : (Dat.mk 2 (sgB (fN n) (eN n) B) false 0 0).v = .agg #[.int .i64 2, .bool (((B / 2 ^ (fN n + eN n) % 2 : Nat) : Int) == 1), .bool false, .int .i64 0, .int .u64 0, .int .u64 0, .int .u64 0, .int .u64 0] := by
        unfold Dat.v DV sgB; simp only [W4_zero]
      rw [e]; exact this
    · rw [if_neg h2]
      have c26b := fun w => field_any B (fN n - 1) 1 w hB (by omega) (by omega)
      rw [show ((fN n - 1 : Nat) : Int) = (fN n : Int) - 1 by omega, show ((1 : Nat) : Int) = 1 from rfl, Nat.pow_one] at c26b
      have c26c := fun w => field_any B 0 (fN n - 1) w hB (by omega) (by omega)
      rw [show ((fN n - 1 : Nat) : Int) = (fN n : Int) - 1 by omega, show ((0 : Nat) : Int) = 0 from rfl, Nat.pow_zero, Nat.div_one] at c26c
      have := runpack_nan n B (fN n) (eN n) _ _ _ _ _ _ _ _ w hf he hEn hS9 c24 c25 c0 c1 c26 hE h2 _ _ (by omega) c26b c26c
      have hm : B % 2 ^ fN n = B % 2 ^ (fN n - 1) + 2 ^ (fN n - 1) * (B / 2 ^ (fN n - 1) % 2) := by
        have : 2 ^ fN n = 2 ^ (fN n - 1) * 2 := by rw [← Nat.pow_succ]; congr 1; omega
        rw [this]; exact Nat.mod_mul
      have hpl : B % 2 ^ (fN n - 1) < 2 ^ (fN n - 1) := Nat.mod_lt _ (Nat.two_pow_pos _)
      have e : (if B % 2 ^ fN n < 2 ^ (fN n - 1) then (Dat.mk 3 (sgB (fN n) (eN n) B) true 0 (B % 2 ^ fN n)) else ⟨3, sgB (fN n) (eN n) B, false, 0, B % 2 ^ fN n - 2 ^ (fN n - 1)⟩) = ⟨3, sgB (fN n) (eN n) B, (((B / 2 ^ (fN n - 1) % 2 : Nat) : Int) == 0), 0, B % 2 ^ (fN n - 1)⟩ := by
        have h01 : B / 2 ^ (fN n - 1) % 2 = 0 ∨ B / 2 ^ (fN n - 1) % 2 = 1 := by omega
        rcases h01 with h0 | h0
        · rw [h0, Nat.mul_zero, Nat.add_zero] at hm
          rw [if_pos (by omega), hm, h0]; rfl
        · rw [h0, Nat.mul_one] at hm
          rw [if_neg (by omega), h0, show B % 2 ^ fN n - 2 ^ (fN n - 1) = B % 2 ^ (fN n - 1) by omega]; rfl
      rw [e]
      exact this
  · rw [if_neg h1]
    have hE : (((B / 2 ^ fN n % 2 ^ eN n : Nat) : Int) == 2 ^ eN n - 1) = false := by
      rw [hpc] at hp ⊢; rw [beq_eq_false_iff_ne]; omega
    by_cases h2 : B / 2 ^ fN n % 2 ^ eN n = 0
    · rw [if_pos h2]
      exact runpack_sub n B (fN n) (eN n) _ _ _ _ _ _ _ _ w hf he hEn hS9 c24 c25 c0 c1 c26 hE (by omega)
    · rw [if_neg h2]
      have := runpack_norm n B (fN n) (eN n) _ _ _ _ _ _ _ _ w hf he hEn hS9 c24 c25 c0 c1 c26 hE (by rw [beq_eq_false_iff_ne]; omega) ⟨hF.l1, hF.l0⟩ (by rw [hpc] at hp; omega) (2 ^ fN n) (fun w => rpow_nv (fN n) w (by omega))
      rw [show leastN n - 1 + ((B / 2 ^ fN n % 2 ^ eN n : Nat) : Int) = leastN n + ((B / 2 ^ fN n % 2 ^ eN n : Nat) - 1 : Int) by omega] at this
      exact this
theorem runpack_any (n : Int) (B : Nat) (w : World) (hB : B < 2 ^ 256) :
    Calls Tryz.prog 16 #[.int .i64 n, A4 B] w fun x w' => x = .returned (.tuple #[(unD n B).v, .int .i64 (unE n B)]) ∧ Below w.heap.size w w' := by
  unfold unD unE
  by_cases h : goodN n B
  · rw [if_pos h, if_pos h]; exact runpack_ok n B w hB h
  · rw [if_neg h, if_neg h]; exact runpack_bad n B w hB h
end Go.Proofs.YtckkibmehjlgaaaGreatDoor

namespace Go.Proofs.YtckkibmehjlgaaaGreatDoor
open Go.RowKit

theorem NT.tight {K K' V : Nat} {v : Value} {w : World} (h : NT K V v w) (hb : bl V ≤ 64 * K') : NT K' V v w := by
  obtain ⟨g, k, cap, z, h1, h2, h3, h4, h5⟩ := h
  exact ⟨g, k, cap, z, h1, by have := (size_bl (m := K') h3.2.2.1 h4).2 hb; omega, h3, h4, h5⟩
section
variable (x : Int) (vn vd : Value) (A KK : Nat) (w : World) (hx : -12000 ≤ x ∧ x ≤ 12000)
include hx
end
set_option maxHeartbeats 400000 in
theorem number_nil (w : World) : Calls Tryz.prog 19 #[.string (B [])] w fun r w' => ∃ v, r = .returned v ∧ NT 1001 0 v w' ∧ Below w.heap.size w w' := by
  have hs : (B []).size = 0 := rfl
  have hN := num_empty w
  go_enter Tryz.func19, Tryz.ntmps19
  go_wp2
  go_loopw [3, 4, 5, 6] (fun t3 t4 u5 u6 wr => t3 = .slice (some ⟨w.heap.size, 0, none⟩) 0 0 ∧ t4 = .int .i64 0 ∧ wr = w.alloc (.cells #[] 22)) (fun _ _ _ _ _ => 0)
  case atStart => exact ⟨rfl, rfl, rfl⟩
  case round =>
    obtain ⟨rfl, rfl, rfl⟩ := hrel
    go_wp2
    go_ret
    exact ⟨_, rfl, ⟨_, 0, 0, fun _ => 0, rfl, by decide, hN, rfl, rfl⟩, below1 _ _⟩
theorem number8 (l : List UInt8) (w : World) (hd : l.all dg = true) (hl : l.length ≤ 4000) : Calls Tryz.prog 19 #[.string (B l)] w fun r w' => ∃ v, r = .returned v ∧ NT 1001 (dV l) v w' ∧ Below w.heap.size w w' := by
  by_cases h0 : l = []
  · subst h0
    exact number_nil w
  · have hlen : 0 < l.length := List.length_pos_iff.2 h0
    obtain ⟨hlt, he⟩ := dV_lt hd
    have hbl : bl (dV l) ≤ 64 * 1001 := bl_10 hlt (by omega)
    have c := number_any (B l) w (by unfold isDigB; rw [dig_B hd, Bool.true_and]; exact decide_eq_true (by rw [B_size]; exact hlen)) (by rw [B_size]; omega)
    refine c.mono fun r w' ⟨g, k, cap, z, e1, hk, hN, hv, hB, hs⟩ => ⟨_, e1, ?_, hB⟩
    have h36 : NT 36000 (dV l) (.slice (some ⟨g, 0, none⟩) k cap) w' := ⟨g, k, cap, z, rfl, hk, hN, by rw [hv, he], hs⟩
    exact h36.tight hbl
attribute [local irreducible] W4 NT NV
end Go.Proofs.YtckkibmehjlgaaaGreatDoor

namespace Go.Proofs.YtckkibmehjlgaaaGreatDoor
open Go.RowKit

/-- a number without noughts ahead -/
theorem dV_ge {l : List UInt8} (hd : l.all dg = true) (h0 : by_ l 0 ≠ 48) (hl : l ≠ []) : 10 ^ (l.length - 1) ≤ dV l := by
  cases l with
  | nil => exact absurd rfl hl
  | cons c r =>
    have hr : r.all dg = true := by rw [List.all_cons] at hd; simp at hd; simpa using hd.2
    have hc : dg c = true := by rw [List.all_cons] at hd; simp at hd; exact hd.1
    unfold dg at hc
    have hc' := of_decide_eq_true hc
    rw [by_zero] at h0
    have h := numV_app (s := B (c :: r)) (u := B r) 1 (B r).size (fun i hi => by rw [sb_by, sb_by, Nat.add_comm, by_succ])
    have hs : (B (c :: r)).size = 1 + (B r).size := by rw [B_size, B_size, List.length_cons]; omega
    have h1 : numV (B (c :: r)) 1 = (c.toNat : Int) - 48 := by
      have : numV (B (c :: r)) 1 = numV (B (c :: r)) 0 * 10 + (sb (B (c :: r)) 0 - 48) := rfl
      rw [this, sb_by, by_zero]
      have : numV (B (c :: r)) 0 = 0 := rfl
      omega
    have hb := (numV_bd _ (dig_B hr)).1
    have e := (dV_lt hd).2
    rw [hs, h, h1] at e
    rw [B_size] at e hb
    have hp : ((10 : Int) ^ r.length) = ((10 ^ r.length : Nat) : Int) := by simp
    rw [hp] at e
    show 10 ^ (r.length + 1 - 1) ≤ _
    rw [Nat.add_sub_cancel]
    have hm : 1 * ((10 ^ r.length : Nat) : Int) ≤ ((c.toNat : Int) - 48) * ((10 ^ r.length : Nat) : Int) := Int.mul_le_mul_of_nonneg_right (by omega) (Int.natCast_nonneg _)
    omega
end Go.Proofs.YtckkibmehjlgaaaGreatDoor

namespace Go.Proofs.YtckkibmehjlgaaaGreatDoor
open Go.RowKit

set_option maxHeartbeats 400000 in
theorem ofb_any (c : Int) (w : World) (hc : 0 ≤ c ∧ c ≤ 18446744073709551615) :
    Calls Tryz.prog 83 #[.int .u64 c] w fun e w' => ∃ g k cap z, e = .returned (.slice (some ⟨g, 0, none⟩) k cap) ∧ k ≤ 1 ∧ Num w' (some ⟨g, 0, none⟩) k cap z ∧ val z k = c ∧ Below w.heap.size w w' := by
  have hN := num_one w c hc
  have hT := trim_any _ 1 1 (oneW c) _ (by omega) hN
  have hle := sizeL_le (oneW c) 1
  have HV : Hid (val (oneW c) (sizeL (oneW c) 1) = c) := by show _ = _; rw [val_bare, val_one _ 1 (by omega)]
  have HB := below1 w (.cells #[.int .u64 c] 22)
  generalize sizeL (oneW c) 1 = s at *
  clear hN
  go_enter Tryz.func83, Tryz.ntmps83
  go_wp2_with (go_at_call 49; refine hT.mono ?_; rintro e w1 ⟨g, cap, rfl, hN, hB⟩)
  go_ret
  exact ⟨g, s, cap, _, rfl, hle, hN, HV.out, HB.trans (hB.mono HB.size)⟩
/-- the quotient's words from k on -/
def quoKb (x : Nat → Int) (d : Int) (s k i : Nat) : Int := if k ≤ i ∧ i < s then quoW x d s i else 0
set_option maxHeartbeats 1000000 in
theorem smb_any (a : Option Addr) (s c : Nat) (x : Nat → Int) (d : Int) (w : World) (hs : s < 100000) (h : Num w a s c x) (hd : 0 < d ∧ d ≤ 18446744073709551615) :
    Calls Tryz.prog 50 #[.slice a s c, .int .u64 d] w fun e w' => ∃ g k cap z g' k' cap' z', e = .returned (.tuple #[.slice (some ⟨g, 0, none⟩) k cap, .slice (some ⟨g', 0, none⟩) k' cap']) ∧ k ≤ s ∧ k' ≤ 1 ∧ Num w' (some ⟨g, 0, none⟩) k cap z ∧ Num w' (some ⟨g', 0, none⟩) k' cap' z' ∧ val z k = val x s / d ∧ sizeL z k = k ∧ val z' k' = val x s % d ∧ Below w.heap.size w w' := by
  have hx := h.2.2.1
  have H := fun j hj w => limDiv_ok x d s hx hd j hj w
  have hd0 : (d == 0) = false := by simp; omega
  have hmk := fun w => make_any (s : Int) s rfl (by omega) w
  have hA := apart_of h
  have hBW := below1 w (.cells (arrOf (fun _ => 0) s) 22)
  have hnx := h.next hBW
  have hO := Own.new w (fun _ => 0) s
  have hqv := quo_val hx hd.1 s
  have HQW : Hid (Words (quoW x d s)) := quoW_words hx hd.1 s
  have hrb := remJ_bd x d s s hd.1
  have HB : Hid (Below w.heap.size w (w.alloc (.cells (arrOf (fun _ => 0) s) 22))) := hBW
  clear hBW h hx
  go_enter Tryz.func50, Tryz.ntmps50
  go_wp2
  generalize w.alloc (.cells (arrOf (fun _ => 0) s) 22) = wA at *
  go_loopw [7, 8, 19] (fun c i u19 wr => ∃ (k : Nat), k ≤ s ∧ i = .int .i64 ((k : Int) - 1) ∧ c = .int .u64 (remJ x d s (s - k)) ∧ Own w.heap.size s (quoKb x d s k) wr ∧ Upd w.heap.size wA wr) (fun _ i _ _ => (intOf i + 1).toNat)
  case atStart => exact ⟨s, Nat.le_refl _, by go_num, by rw [Nat.sub_self]; rfl, hO.congr fun i _ => by unfold quoKb; rw [if_neg (by omega)], Upd.refl _ _⟩
  case round =>
    clear hO
    obtain ⟨k, hk, rfl, rfl, hO, hU⟩ := hrel
    by_cases h0 : k = 0
    · subst h0
      have hN := hO.num (x := quoKb x d s 0) (fun i => by unfold quoKb; split; exact HQW.out i; decide) 0 s s (by omega) (Nat.le_refl _) (by unfold maxLen; omega)
      have hT := trim_any _ s s _ _ (by omega) hN
      have hle := sizeL_le (segW (quoKb x d s 0) 0 s) s
      have HV : Hid (val (segW (quoKb x d s 0) 0 s) (sizeL (segW (quoKb x d s 0) 0 s) s) = val x s / d) := by
        show _ = _
        rw [val_bare, val_congr (y := quoW x d s) s fun i hi => by rw [segW_lt _ _ _ i hi, Nat.zero_add]; unfold quoKb; rw [if_pos (by omega)], hqv.1]
      have HR : Hid (remJ x d s s = val x s % d) := hqv.2
      have HBr : Hid (Below w.heap.size w wr) := HB.out.trans (hU.below (Nat.le_refl _))
      have HST : Hid (sizeL (segW (quoKb x d s 0) 0 s) (sizeL (segW (quoKb x d s 0) 0 s) s) = sizeL (segW (quoKb x d s 0) 0 s) s) := sizeL_sizeL _ _
      generalize segW (quoKb x d s 0) 0 s = qz at *
      generalize sizeL qz s = k1 at *
      have hof := fun wr => ofb_any (remJ x d s s) wr (by omega)
      rw [Nat.sub_zero]
      generalize remJ x d s s = rm at *
      clear hN hO hU H hqv
      go_wp2_with (go_at_call 49; refine hT.mono ?_; rintro e w1 ⟨g, cap, rfl, hN1, hB1⟩; clear hT)
      go_wp2_with (go_at_call 83; refine (hof _).mono ?_; rintro e w2 ⟨g2, k2, p2, z2, rfl, hk2, hN2, hv2, hB2⟩; clear hof)
      go_ret2
      exact ⟨g, k1, cap, qz, g2, k2, p2, z2, rfl, hle, hk2, hN1.next hB2, hN2, HV.out, HST.out, by rw [hv2, HR.out], (HBr.out.trans (hB1.mono HBr.out.size)).trans (hB2.mono (Nat.le_trans HBr.out.size hB1.size))⟩
    · obtain ⟨j, rfl⟩ : ∃ j, k = j + 1 := ⟨k - 1, by omega⟩
      have hjm : (j : Int) < s := by omega
      have ej : ((j + 1 : Nat) : Int) - 1 = j := by omega
      have ej2 : s - (j + 1) = s - 1 - j := by omega
      rw [ej, ej2]
      obtain ⟨b, off, rfl, hbs, hc⟩ := (hU.num' hA hnx).cells (by omega)
      have hcx := hc j (by omega)
      have hcj : ∃ u, wr.cell? ⟨w.heap.size, j, none⟩ = some (.int .u64 u) := ⟨_, hO.cell j (by omega)⟩
      obtain ⟨u, hcj⟩ := hcj
      have hfj := hO.frozen j
      have HJ := H j (by omega)
      have HO : Hid (Own w.heap.size s (quoKb x d s j) (wr.setCell ⟨w.heap.size, j, none⟩ (.int .u64 (quoW x d s j)))) := (hO.set j (quoW x d s j)).congr fun i hi => by
        unfold quoKb
        by_cases e : i = j
        · subst e; rw [if_pos rfl, if_pos (by omega)]
        · rw [if_neg e]
          by_cases e2 : j + 1 ≤ i ∧ i < s
          · rw [if_pos e2, if_pos (by omega)]
          · rw [if_neg e2, if_neg (by omega)]
      have HU : Hid (Upd w.heap.size wA (wr.setCell ⟨w.heap.size, j, none⟩ (.int .u64 (quoW x d s j)))) := hU.set j _
      clear hO hU H ej ej2 hc hqv hA hnx
      go_wp2_with (go_at_call 82; refine (HJ _).mono ?_; rintro e w' ⟨rfl, m', rfl⟩)
      go_roundw
      case rel => exact ⟨j, by omega, by go_num, rfl, HO.out, HU.out.drewN m'⟩
      case measure => simp [intOf]
end Go.Proofs.YtckkibmehjlgaaaGreatDoor

namespace Go.Proofs.YtckkibmehjlgaaaGreatDoor
open Go.RowKit

theorem Tryz.info5d : (Tryz.prog.info? 5).map (fun i => (i.zero, i.size, i.bytes)) = some (some (.int .u8 0), 1, 1) := by kernel_rfl

theorem dgt_step18 {V r : Int} {L j : Nat} (hr : V / 10 ^ L % 10 ^ 18 = r) (hj : j < 18) : r / 10 ^ j % 10 = dgt V (L + j) := by
  unfold dgt
  rw [← div_div10]
  generalize V / 10 ^ L = W at *
  subst hr
  have h1 : (10 : Int) ^ 18 = 10 ^ j * (10 * 10 ^ (17 - j)) := by
    rw [← Int.mul_assoc, ← Int.pow_succ, ← Int.pow_add]; congr 1; omega
  have hp := p10_pos j
  have hp2 := p10_pos (17 - j)
  rw [h1, emod_mul_ediv' hp]
  exact Int.emod_emod_of_dvd _ ⟨10 ^ (17 - j), rfl⟩
theorem owns_below {w w' : World} {base n : Nat} {v : Value} {xs : List Value} (h : w.ownsRow base 5 1 v n xs) (hB : Below w.heap.size w w') : w'.ownsRow base 5 1 v n xs := by
  obtain ⟨h1, h2⟩ := h
  refine ⟨h1, ?_⟩
  rcases h2 with h2 | ⟨g', cap, cur, e, hb, hh, r⟩
  · exact Or.inl h2
  · have hg : g' < w.heap.size := by
      rcases Nat.lt_or_ge g' w.heap.size with h' | h'
      · exact h'
      · rw [Array.getElem?_eq_none h'] at hh; cases hh
    exact Or.inr ⟨g', cap, cur, e, hb, (hB.block g' hg).trans hh, r⟩
theorem num_grown {w w' : World} {V : Int} {g k cap base L cp : Nat} {ao : Option Addr} {z : Nat → Int} (hN : Num w (some ⟨g, 0, none⟩) k cap z) (hown : w.ownsRow base 5 1 (.slice ao L cp) L (blB V L)) (hao : ao = none ∨ 0 < L) (hg : w.grownBy w' (Value.slice ao L cp).ownBlock) : Num w' (some ⟨g, 0, none⟩) k cap z := by
  obtain ⟨h1, h2, h3, h4, h5⟩ := hN
  rcases h5 with ⟨h, _⟩ | ⟨b, off, e, hb, hc⟩
  · cases h
  · cases e
    refine ⟨h1, h2, h3, h4, Or.inr ⟨g, 0, rfl, Nat.lt_of_lt_of_le hb hg.size, fun i hi => ?_⟩⟩
    have hne : some g ≠ (Value.slice ao L cp).ownBlock := by
      intro e
      rcases ao with _ | ⟨b', o', s'⟩
      · cases e
      · have hL : 0 < L := by rcases hao with h | h; cases h; exact h
        obtain ⟨g', cap', e2, _⟩ := hown.form hL
        cases e2
        cases e
        have h6 := hc 0 (by omega)
        rw [Nat.add_zero, hown.cellAt 0 (by omega)] at h6
        simp [blB, hL] at h6
    exact (hg.cell_far ⟨g, 0 + i, none⟩ hb hne).trans (hc i hi)
/-- in the middle of the work: the digits so far, and the rest to come -/
def DS (w0 : World) (V : Int) (ao : Option Addr) (L cp g k cap : Nat) (z : Nat → Int) (wr : World) : Prop :=
  wr.ownsRow w0.heap.size 5 1 (.slice ao L cp) L (blB V L) ∧ (ao = none ∨ 0 < L) ∧ Num wr (some ⟨g, 0, none⟩) k cap z ∧ Below w0.heap.size w0 wr
def rl (V : Int) (K i : Nat) : List Value := (List.range i).map fun q => Value.int .u8 (48 + dgt V (K - 1 - q))
theorem rl_succ (V : Int) (K i : Nat) : rl V K i ++ [Value.int .u8 (48 + dgt V (K - 1 - i))] = rl V K (i + 1) := by simp [rl, List.range_succ]

set_option maxRecDepth 20000 in
set_option maxHeartbeats 4000000 in
theorem rdec_any (a : Option Addr) (n c : Nat) (x : Nat → Int) (w : World) (hn : n < 100000) (h : Num w a n c x) (hsz : sizeL x n ≤ 2000) (hpos : 0 < sizeL x n) :
    Calls Tryz.prog 17 #[.slice a n c] w fun e w' => ∃ L, val x n < 10 ^ L ∧ e = .returned (.string (strOfNums (revL (val x n) (sizeL (dgt (val x n)) L)))) ∧ Below w.heap.size w w' := by
  have ht := trim_any a n c x w (by omega) h
  obtain ⟨s, hs⟩ : ∃ s, sizeL x n = s := ⟨_, rfl⟩
  have hss := sizeL_sizeL x n
  have hx := h.2.2.1
  rw [← val_bare n]
  rw [hs] at ht hsz hss hpos ⊢
  obtain ⟨V, hV⟩ : ∃ V, val x s = V := ⟨_, rfl⟩
  have hV0 : 0 < V := by rw [← hV]; exact val_pos hx s hpos hss
  rw [hV]
  have HVB : Hid (V < 18446744073709551616 ^ s) := by show _ < _; rw [← hV]; exact (val_bd hx s).2
  have HV : Hid (val x s = V) := hV
  have HSS : Hid (sizeL x s = s) := hss
  clear h hs hV hss hx
  go_enter Tryz.func17, Tryz.ntmps17
  go_wp2_with (go_at_call 49; refine ht.mono ?_; rintro e wA ⟨g0, cap0, rfl, hN0, hB0⟩; clear ht)
  go_loopw [0, 3, 4, 5, 6, 15, 22] (fun t0 t3 u4 u5 u6 u15 u22 wr => ∃ (L k cp g cap : Nat) (ao : Option Addr) (z : Nat → Int), t3 = .slice ao L cp ∧ t0 = .slice (some ⟨g, 0, none⟩) k cap ∧ k ≤ s ∧ L ≤ 22 * s + 18 ∧ Hid (sizeL z k = k ∧ val z k = V / 10 ^ L) ∧ Hid (DS w V ao L cp g k cap z wr)) (fun _ t3 _ _ _ _ _ _ => 22 * s + 19 - slLen t3)
  case atStart => exact ⟨0, s, 0, g0, cap0, none, x, rfl, rfl, Nat.le_refl _, by omega, ⟨HSS.out, by rw [HV.out]; simp⟩, ⟨World.ownsRow_nil _ _ _ _, Or.inl rfl, hN0, hB0⟩⟩
  case round =>
    clear hN0 hB0
    obtain ⟨L, k, cp, g, cap, ao, z, rfl, rfl, hk, hLs, hzv, hst⟩ := hrel
    by_cases h0 : k = 0
    · subst h0
      have hVL : V < 10 ^ L := by
        have e : V / 10 ^ L = 0 := hzv.out.2.symm
        have := Int.lt_mul_ediv_self_add (x := V) (k := 10 ^ L) (p10_pos L)
        rw [e] at this; simpa using this
      have HVL : Hid (V < 10 ^ L) := hVL
      have hKp : 0 < sizeL (dgt V) L := by
        rcases Nat.eq_zero_or_pos (sizeL (dgt V) L) with e | e
        · have := lt_sizeL (Int.le_of_lt hV0) L hVL
          rw [e] at this; simp at this; omega
        · exact e
      have hL0 : 0 < L := Nat.lt_of_lt_of_le hKp (sizeL_le _ _)
      obtain ⟨hown, hao, hN, hB⟩ := hst.out
      obtain ⟨gb, capb, e2, hbg, hgb⟩ := hown.form hL0
      cases e2
      obtain ⟨_, hLc, hcm, hHB⟩ := owns_cells hown
      have HHB : Hid (HasB gb L (fun i => 48 + dgt V i) wr) := hHB
      have HB : Hid (Below w.heap.size w wr) := hB
      clear hst hown hao hN hB hHB hzv hVL
      go_wp2
      go_loop [7] (fun t7 => ∃ m : Nat, m ≤ L ∧ t7 = .int .i64 m ∧ Hid (sizeL (dgt V) m = sizeL (dgt V) L)) (fun t7 => (intOf t7).toNat)
      case atStart => exact ⟨L, Nat.le_refl _, rfl, rfl⟩
      case round =>
        obtain ⟨m, hm, rfl, hmK⟩ := hrel
        by_cases hm0 : m = 0
        · subst hm0
          have := hmK.out
          simp [sizeL] at this
          omega
        · obtain ⟨j, rfl⟩ : ∃ j, m = j + 1 := ⟨m - 1, by omega⟩
          have hcj : wr.cell? ⟨gb, j, none⟩ = some (.int .u8 (48 + dgt V j)) := (HHB.out.2 j (by omega)).1
          have hdb := dgt_bd V j
          by_cases hzj : dgt V j = 0
          · have HS : Hid (sizeL (dgt V) j = sizeL (dgt V) L) := by
              have : sizeL (dgt V) (j + 1) = sizeL (dgt V) j := by simp [sizeL, hzj]
              exact this.symm.trans hmK.out
            clear hmK
            rw [hzj] at hcj
            go_wp2
            go_round
            case rel => exact ⟨j, by omega, by go_num, HS.out⟩
            case measure => simp [intOf]
          · have HS : Hid (sizeL (dgt V) L = j + 1) := by
              have : sizeL (dgt V) (j + 1) = j + 1 := by simp [sizeL, hzj]
              exact hmK.out.symm.trans this
            have hne : (48 + dgt V j == 48) = false := by simp; omega
            clear hmK
            generalize dgt V j = dj at hcj hdb hzj hne
            go_wp2
            clear hcj hdb hzj hne
            have HK : Hid (0 < j + 1 ∧ j + 1 ≤ L) := by show _ ∧ _; omega
            rename World => wB
            go_loopw [8, 9, 50] (fun t8 u9 t50 wr => ∃ (i cp2 : Nat) (ao2 : Option Addr), i ≤ (j + 1) ∧ t8 = .slice ao2 i cp2 ∧ t50 = .int .i64 i ∧ Hid (wr.ownsRow wB.heap.size 5 1 (.slice ao2 i cp2) i (rl V (j + 1) i) ∧ Below wB.heap.size wB wr)) (fun _ _ t50 _ => (j + 1) - (intOf t50).toNat)
            case atStart => exact ⟨0, 0, none, Nat.zero_le _, rfl, rfl, ⟨World.ownsRow_nil _ _ _ _, Below.refl _ _⟩⟩
            case round =>
              obtain ⟨i, cp2, ao2, hi, rfl, rfl, hst2⟩ := hrel
              obtain ⟨hown2, hB2⟩ := hst2.out
              by_cases hik : i < (j + 1)
              · obtain ⟨q, hq⟩ : ∃ q, (j + 1) - 1 - i = q := ⟨_, rfl⟩
                have e1 : ((j : Int) - i).toNat = q := by omega
                have e2 : 0 ≤ (j : Int) - i := by omega
                have e3 : (j : Int) - i < L := by have := HK.out.2; omega
                have hii : (i : Int) < (j : Int) + 1 := by omega
                have hcq : wr.cell? ⟨gb, q, none⟩ = some (.int .u8 (48 + dgt V q)) := (World.cell?_of_block (hB2.block gb hgb)).trans (HHB.out.2 q (by have := HK.out.2; omega)).1
                have hdb := dgt_bd V q
                have HDV : Hid (dgt V q = dgt V ((j + 1) - 1 - i)) := by show _ = _; rw [hq]
                generalize dgt V q = dq at *
                obtain ⟨i0, hi0, hz0, hz1, hz2⟩ := info_parts Tryz.info5d
                have HOWN : (wr.alloc (.cells #[.int .u8 (48 + dq)] 5)).ownsRow wB.heap.size 5 1 (.slice ao2 i cp2) i (rl V (j + 1) i) := hown2.alloc _
                have HNEWS : ∀ (q : Nat) (u : Value), [Value.int .u8 (48 + dq)][q]? = some u → (wr.alloc (.cells #[.int .u8 (48 + dq)] 5)).cell? ((⟨wr.heap.size, 0, none⟩ : Addr).add q) = some u := by
                  intro q u hq
                  match q, hq with
                  | 0, hq => simp at hq; subst hq; simp [Addr.add]
                have HONE : ∀ u ∈ [Value.int .u8 (48 + dq)], u.oneCell' = true := by
                  intro u hu; simp at hu; subst hu; rfl
                have HOF : Hid (∀ q, (Value.slice ao2 i cp2).ownBlock = some q → wB.heap.size ≤ q) := fun q hq => (hown2.lt q hq).1
                have hb2s := hB2.size
                have HB2 : Hid (Below wB.heap.size wB wr) := hB2
                have HKL := HK.out.2
                clear hst2 hown2 hB2 hq
                go_wp2_with (first | (at_builtin; refine wpList_append_lies _ rfl (.tmp 53) (.tmp 61) 80 rfl wB.heap.size 5 i0 (.int .u8 0) 1 1 Tryz.underlying80 hi0 hz0 hz1 hz2 rfl (by decide) (.slice ao2 i cp2) i (rl V (j + 1) i) rfl HOWN ⟨wr.heap.size, 0, none⟩ 1 1 [Value.int .u8 (48 + dq)] rfl rfl HNEWS HONE (by omega) (by unfold maxLen; omega) (by omega) (by simp; omega) (wr.heap.size + 1) (by simp) ?_; intro g1 cap1 w1 hown1 hgrow hat hlt1; clear HOWN HNEWS HONE))
                have HB3 : Below wB.heap.size wr w1 := ((Below.refl _ wr).alloc hb2s _).grown hgrow (by simp; omega) HOF.out
                have HST : Hid (w1.ownsRow wB.heap.size 5 1 (.slice (some ⟨g1, 0, none⟩) (i + 1) cap1) (i + 1) (rl V (j + 1) (i + 1)) ∧ Below wB.heap.size wB w1) := by
                  refine ⟨?_, HB2.out.trans HB3⟩
                  rw [HDV.out, rl_succ] at hown1; exact hown1
                clear hown1 hgrow HB3
                go_wp2
                go_roundw
                case rel => exact ⟨i + 1, cap1, some ⟨g1, 0, none⟩, by omega, rfl, by go_num, HST.out⟩
                case measure => simp [intOf]; omega
              · obtain rfl : i = j + 1 := by omega
                obtain ⟨g2, cap2, e2, _⟩ := hown2.form HK.out.1
                cases e2
                have hcc : ∀ q, q < j + 1 → wr.cell? ⟨g2, q, none⟩ = some (.int .u8 (48 + dgt V (j + 1 - 1 - q))) := fun q hq => by
                  rw [hown2.cellAt q (by omega)]; simp [rl, hq]
                have hcv := run_convert_bytes_arg (P := Tryz.prog) wr 80 5 Tryz.underlying80 Tryz.underlying5 g2 0 (j + 1) cp2 (revL V (j + 1)) (by simp [revL]) (fun q hq => by rw [Nat.zero_add, hcc q hq]; simp [revL, hq]) 9 Tryz.underlying9
                have HB3 : Hid (Below w.heap.size w wr) := HB.out.trans (hB2.mono HB.out.size)
                clear hst2 hown2 hB2 hcc
                go_wp2
                go_ret
                exact ⟨L, HVL.out, by rw [HS.out]; rfl, HB3.out⟩
    · have hk0 : (0 : Int) < k := by omega
      obtain ⟨hown, hao, hN, hB⟩ := hst.out
      have hz := hN.2.2.1
      have hL : L < 22 * s := by
        have h1 := val_pos hz k (by omega) hzv.out.1
        rw [hzv.out.2] at h1
        refine p10_lt (Int.lt_of_le_of_lt ?_ HVB.out)
        have h2 := p10_pos L
        rcases Int.lt_or_le V (10 ^ L) with h3 | h3
        · rw [Int.ediv_eq_zero_of_lt (Int.le_of_lt hV0) h3] at h1; omega
        · exact h3
      have hsm := smb_any (some ⟨g, 0, none⟩) k cap z 1000000000000000000 wr (by omega) hN (by decide)
      have HQ : Hid (val z k / 1000000000000000000 = V / 10 ^ (L + 18)) := by show _ = _; rw [hzv.out.2, ← div_div10]; rfl
      have HR0 : Hid (val z k % 1000000000000000000 = V / 10 ^ L % 10 ^ 18) := by show _ = _; rw [hzv.out.2]; rfl
      have HOW : Hid (wr.ownsRow w.heap.size 5 1 (.slice ao L cp) L (blB V L)) := hown
      have HB : Hid (Below w.heap.size w wr) := hB
      clear hst hown hN hB hz hzv
      go_wp2_with (first | (go_at_call 50; refine hsm.mono ?_; rintro e w1 ⟨g1, k1, cap1, z1, g2, k2, cap2, z2, rfl, hk1, hk2, hN1, hN2, hv1, hs1, hv2, hB1⟩; clear hsm; have hwd := word_any (some ⟨g2, 0, none⟩) k2 cap2 0 z2 w1 hN2) | (go_at_call 51; refine hwd.mono ?_; rintro e w1' ⟨rfl, hww⟩; subst hww; clear hwd))
      have hr : V / 10 ^ L % 10 ^ 18 = z2 0 := by
        rw [← HR0.out, ← hv2]
        rcases Nat.eq_zero_or_pos k2 with e | e
        · subst e; rw [hN2.2.2.2.1 0 (Nat.le_refl _)]; rfl
        · have : k2 = 1 := by omega
          subst this; simp [val]
      have HR : Hid (∀ j, j < 18 → z2 0 / 10 ^ j % 10 = dgt V (L + j)) := fun j hj => dgt_step18 hr hj
      have hrb := hN2.2.2.1 0
      have hst1 : Hid (DS w V ao L cp g1 k1 cap1 z1 w1') := ⟨owns_below HOW.out hB1, hao, hN1, HB.out.trans (hB1.mono HB.out.size)⟩
      have HZ1 : Hid (sizeL z1 k1 = k1 ∧ val z1 k1 = V / 10 ^ (L + 18)) := ⟨hs1, by rw [hv1, HQ.out]⟩
      generalize z2 0 = r at *
      clear hN1 hN2 hB1 hr hv1 hv2 hs1 HQ HR0 HOW HB
      go_loopw [3, 6, 22] (fun t3 t6 t22 wr => ∃ (j cp : Nat) (ao : Option Addr), j ≤ 18 ∧ t3 = .slice ao (L + j) cp ∧ t6 = .int .u64 (r / 10 ^ j) ∧ t22 = .int .i64 j ∧ Hid (DS w V ao (L + j) cp g1 k1 cap1 z1 wr)) (fun _ _ t22 _ => 18 - (intOf t22).toNat)
      case atStart => exact ⟨0, cp, ao, by omega, rfl, by simp, rfl, hst1⟩
      case round =>
        clear hst1
        obtain ⟨j, cp2, ao2, hj, rfl, rfl, rfl, hst2⟩ := hrel
        by_cases hj18 : j < 18
        · have hji : (j : Int) < 18 := by omega
          have hp : 0 ≤ r / 10 ^ j ∧ r / 10 ^ j ≤ 18446744073709551615 := by
            have h1 := p10_pos j
            have h2 := Int.ediv_nonneg hrb.1 (Int.le_of_lt h1)
            have h3 : r / 10 ^ j ≤ r := Int.ediv_le_self _ hrb.1
            omega
          have HP : Hid (r / 10 ^ (j + 1) = r / 10 ^ j / 10) := by
            show _ = _
            rw [Int.pow_succ, ← Int.ediv_ediv_of_nonneg (Int.le_of_lt (p10_pos j))]
          have HVAL : Hid (r / 10 ^ j % 10 = dgt V (L + j)) := HR.out j hj18
          generalize r / 10 ^ j = p at *
          obtain ⟨i0, hi0, hz0, hz1, hz2⟩ := info_parts Tryz.info5d
          obtain ⟨hown, hao2, hN, hB⟩ := hst2.out
          have HOWN : (wr.alloc (.cells #[.int .u8 (48 + p % 10)] 5)).ownsRow w.heap.size 5 1 (.slice ao2 (L + j) cp2) (L + j) (blB V (L + j)) := hown.alloc _
          have HO2 : Hid ((wr.alloc (.cells #[.int .u8 (48 + p % 10)] 5)).ownsRow w.heap.size 5 1 (.slice ao2 (L + j) cp2) (L + j) (blB V (L + j))) := HOWN
          have HN2 : Hid (Num (wr.alloc (.cells #[.int .u8 (48 + p % 10)] 5)) (some ⟨g1, 0, none⟩) k1 cap1 z1) := hN.next (below1 wr _)
          have HNEWS : ∀ (q : Nat) (u : Value), [Value.int .u8 (48 + p % 10)][q]? = some u → (wr.alloc (.cells #[.int .u8 (48 + p % 10)] 5)).cell? ((⟨wr.heap.size, 0, none⟩ : Addr).add q) = some u := by
            intro q u hq
            match q, hq with
            | 0, hq => simp at hq; subst hq; simp [Addr.add]
          have HONE : ∀ u ∈ [Value.int .u8 (48 + p % 10)], u.oneCell' = true := by
            intro u hu; simp at hu; subst hu; rfl
          have HOF : Hid (∀ q, (Value.slice ao2 (L + j) cp2).ownBlock = some q → w.heap.size ≤ q) := fun q hq => (hown.lt q hq).1
          have hbs := hB.size
          have HB : Hid (Below w.heap.size w wr) := hB
          clear hown hN hB hst2
          go_wp2_with (first | (at_builtin; refine wpList_append_lies _ rfl (.tmp 24) (.tmp 29) 80 rfl w.heap.size 5 i0 (.int .u8 0) 1 1 Tryz.underlying80 hi0 hz0 hz1 hz2 rfl (by decide) (.slice ao2 (L + j) cp2) (L + j) (blB V (L + j)) rfl HOWN ⟨wr.heap.size, 0, none⟩ 1 1 [Value.int .u8 (48 + p % 10)] rfl rfl HNEWS HONE (by omega) (by unfold maxLen; omega) (by omega) (by simp; omega) (wr.heap.size + 1) (by simp) ?_; intro g3 cap3 w3 hown1 hgrow hat hlt1; clear HOWN HNEWS HONE))
          have HB3 : Below w.heap.size wr w3 := ((Below.refl _ wr).alloc hbs _).grown hgrow (by simp; omega) HOF.out
          have HST : Hid (DS w V (some ⟨g3, 0, none⟩) (L + (j + 1)) cap3 g1 k1 cap1 z1 w3) := by
            refine ⟨?_, Or.inr (by omega), num_grown HN2.out HO2.out hao2 hgrow, HB.out.trans HB3⟩
            rw [HVAL.out, blB_succ] at hown1; exact hown1
          clear hown1 hgrow HB3
          go_wp2
          go_roundw
          case rel => exact ⟨j + 1, cap3, some ⟨g3, 0, none⟩, by omega, rfl, by rw [HP.out], by go_num, HST.out⟩
          case measure => simp [intOf]; omega
        · obtain rfl : j = 18 := by omega
          go_wp2
          go_roundw
          case rel => exact ⟨L + 18, k1, cp2, g1, cap1, ao2, z1, rfl, rfl, by omega, by omega, HZ1.out, hst2⟩
          case measure => simp [slLen]; omega
end Go.Proofs.YtckkibmehjlgaaaGreatDoor

namespace Go.Proofs.YtckkibmehjlgaaaGreatDoor
open Go.RowKit

set_option maxHeartbeats 1000000 in
theorem rdec_zero (a : Option Addr) (n c : Nat) (x : Nat → Int) (w : World) (hn : n < 100000) (h : Num w a n c x) (hz : sizeL x n = 0) :
    Calls Tryz.prog 17 #[.slice a n c] w fun e w' => e = .returned (.string ⟨#[]⟩) ∧ Below w.heap.size w w' := by
  have ht := trim_any a n c x w (by omega) h
  rw [hz] at ht
  clear h
  go_enter Tryz.func17, Tryz.ntmps17
  go_wp2_with (go_at_call 49; refine ht.mono ?_; rintro e wA ⟨g0, cap0, rfl, hN0, hB0⟩; clear ht hN0)
  go_loopw [0, 3] (fun t0 t3 wr => t0 = .slice (some ⟨g0, 0, none⟩) 0 cap0 ∧ t3 = .slice none 0 0 ∧ Below w.heap.size w wr) (fun _ _ _ => 0)
  case atStart => exact ⟨rfl, rfl, hB0⟩
  case round =>
    obtain ⟨rfl, rfl, hB1⟩ := hrel
    go_wp2
    go_loopw [7] (fun t7 wr => t7 = .int .i64 0 ∧ Below w.heap.size w wr) (fun _ _ => 0)
    case atStart => exact ⟨rfl, hB1⟩
    case round =>
      obtain ⟨rfl, hB2⟩ := hrel
      go_wp2
      go_loopw [8, 50] (fun t8 t50 wr => t8 = .slice none 0 0 ∧ t50 = .int .i64 0 ∧ Below w.heap.size w wr) (fun _ _ _ => 0)
      case atStart => exact ⟨rfl, rfl, hB2⟩
      case round =>
        obtain ⟨rfl, rfl, hB3⟩ := hrel
        have hcv : (convert 80 9 (.slice none 0 0)).run Tryz.prog wr = .ok (.string ⟨#[]⟩) wr := by
          rw [run_convert_bytes_string wr 80 9 5 none 0 0 Tryz.underlying80 Tryz.underlying5 Tryz.underlying9]
          rfl
        go_wp2
        go_ret
        exact ⟨rfl, hB3⟩
theorem p660 {x : Nat → Int} {n : Nat} (hx : Words x) (hn : n ≤ 30) : val x n < 10 ^ 660 := by
  have h := val_bd hx n
  have h2 := p22 n
  have h3 : (10 : Int) ^ (22 * n) ≤ 10 ^ 660 := by
    obtain ⟨k, hk⟩ : ∃ k, 660 = 22 * n + k := ⟨660 - 22 * n, by omega⟩
    rw [hk, Int.pow_add]
    have h4 := p10_pos k
    have h5 := p10_pos (22 * n)
    have : (10 : Int) ^ (22 * n) * 1 ≤ 10 ^ (22 * n) * 10 ^ k := Int.mul_le_mul_of_nonneg_left (by omega) (by omega)
    omega
  omega
/-- the document's Decimal -/
theorem rdec8 {a : Option Addr} {n c : Nat} {x : Nat → Int} {w : World} (hn : n ≤ 30) (h : Num w a n c x) :
    ∃ D : List UInt8, gdD D ∧ (dV D : Int) = val x n ∧ D.length ≤ 660 ∧ ∀ W, Below w.heap.size w W → Calls Tryz.prog 17 #[.slice a n c] W fun e w' => e = .returned (.string (B D)) ∧ Below W.heap.size W w' := by
  have hx := h.2.2.1
  rcases Nat.eq_zero_or_pos (sizeL x n) with hz | hz
  · refine ⟨[], Or.inl rfl, ?_, by decide, fun W hW => rdec_zero a n c x W (by omega) (h.next hW) hz⟩
    have := val_bare (x := x) n
    rw [hz] at this
    rw [← this]; rfl
  · have hv0 : 0 < val x n := by
      rw [← val_bare n]
      exact val_pos hx _ hz (sizeL_sizeL x n)
    have h660 := p660 hx hn
    obtain ⟨d1, d2, d3⟩ := dcD_facts hv0 h660
    refine ⟨dcD (val x n) 660, d1, d2, d3, fun W hW => ?_⟩
    have hle := sizeL_le x n
    refine (rdec_any a n c x W (by omega) (h.next hW) (by omega) hz).mono fun e w' ⟨L, hL, he, hB⟩ => ⟨?_, hB⟩
    rw [he, decL_rev hv0 hL, decL_more (Int.le_of_lt hv0) hL h660, ← decL_rev hv0 h660]
    show _ = Ending.returned (.string (B (dcD (val x n) 660)))
    unfold dcD
    rw [B_of]
end Go.Proofs.YtckkibmehjlgaaaGreatDoor

namespace Go.Proofs.YtckkibmehjlgaaaGreatDoor
open Go.RowKit

theorem dg_uniq : ∀ (n : Nat) (l l' : List UInt8), l.length = n → l'.length = n → l.all dg = true → l'.all dg = true → dV l = dV l' → l = l'
  | 0, l, l', h, h', _, _, _ => by rw [List.length_eq_zero_iff.1 h, List.length_eq_zero_iff.1 h']
  | n + 1, l, l', h, h', hd, hd', hv => by
    rcases List.eq_nil_or_concat l with rfl | ⟨m, c, rfl⟩
    · cases h
    · rcases List.eq_nil_or_concat l' with rfl | ⟨m', c', rfl⟩
      · cases h'
      · rw [List.concat_eq_append] at *
        rw [List.concat_eq_append] at *
        rw [List.all_append] at hd hd'
        simp at hd hd'
        have hm : m.all dg = true := List.all_eq_true.2 hd.1
        have hm' : m'.all dg = true := List.all_eq_true.2 hd'.1
        rw [dV_snoc hm hd.2, dV_snoc hm' hd'.2] at hv
        have c1 : 48 ≤ c.toNat ∧ c.toNat ≤ 57 := of_decide_eq_true hd.2
        have c2 : 48 ≤ c'.toNat ∧ c'.toNat ≤ 57 := of_decide_eq_true hd'.2
        have e1 : dV m = dV m' := by omega
        have e2 : c = c' := UInt8.toNat_inj.1 (by omega)
        rw [dg_uniq n m m' (by simp at h; exact h) (by simp at h'; exact h') hm hm' e1, e2]
theorem gd_uniq {l l' : List UInt8} (h : gdD l) (h' : gdD l') (hv : dV l = dV l') : l = l' := by
  rcases h with rfl | ⟨h1, h2⟩
  · rcases h' with rfl | ⟨h1', h2'⟩
    · rfl
    · unfold isd at h1'
      simp at h1'
      have := dV_ge (List.all_eq_true.2 h1'.1) h2' h1'.2
      rw [← hv, dV_nil] at this
      have := Nat.pow_pos (n := l'.length - 1) (by decide : 0 < 10)
      omega
  · rcases h' with rfl | ⟨h1', h2'⟩
    · unfold isd at h1
      simp at h1
      have := dV_ge (List.all_eq_true.2 h1.1) h2 h1.2
      rw [hv, dV_nil] at this
      have := Nat.pow_pos (n := l.length - 1) (by decide : 0 < 10)
      omega
    · unfold isd at h1 h1'
      simp at h1 h1'
      have a1 := List.all_eq_true.2 h1.1
      have a2 := List.all_eq_true.2 h1'.1
      have g1 := dV_ge a1 h2 h1.2
      have g2 := dV_ge a2 h2' h1'.2
      have l1 := (dV_lt a1).1
      have l2 := (dV_lt a2).1
      have p1 : 0 < l.length := List.length_pos_iff.2 h1.2
      have p2 : 0 < l'.length := List.length_pos_iff.2 h1'.2
      have hlen : l.length = l'.length := by
        rcases Nat.lt_trichotomy l.length l'.length with h | h | h
        · have := Nat.pow_le_pow_right (n := 10) (by decide) (show l.length ≤ l'.length - 1 by omega)
          omega
        · exact h
        · have := Nat.pow_le_pow_right (n := 10) (by decide) (show l'.length ≤ l.length - 1 by omega)
          omega
      exact dg_uniq _ l l' hlen rfl a1 a2 hv
theorem gd_cons {c : UInt8} {r : List UInt8} (h : (c :: r).all dg = true) (hc : c.toNat ≠ 48) : gdD (c :: r) := by
  refine Or.inr ⟨?_, ?_⟩
  · unfold isd; rw [h]; rfl
  · rw [by_zero]; omega
end Go.Proofs.YtckkibmehjlgaaaGreatDoor

namespace Go.Proofs.YtckkibmehjlgaaaGreatDoor
open Go.RowKit

theorem dec_is {V : Nat} {TT : List UInt8} {u : Value} {W : World} (hg : gdD TT) (hv : dV TT = V) (h : NV 8 V u W) : Calls Tryz.prog 17 #[u] W fun r w' => r = .returned (.string (B TT)) ∧ Below W.heap.size W w' := by
  obtain ⟨g, k, cap, z, rfl, hk, hN, hz⟩ := h
  obtain ⟨D, d1, d2, d3, d4⟩ := rdec8 (by omega) hN
  have : D = TT := gd_uniq d1 hg (by rw [hv]; omega)
  subst this
  exact d4 W (Below.refl _ _)
attribute [local irreducible] W4 Nz Nt NT NV
end Go.Proofs.YtckkibmehjlgaaaGreatDoor

namespace Go.Proofs.YtckkibmehjlgaaaGreatDoor
open Go.RowKit

/-- digits and exponent, the program's -/
theorem digits_fin {n : Int} {V : Nat} {E : Int} {K : Nat} (h : finP n V) (hV : V < 2 ^ 256) (hS : Shd n (unD n V).x (unD n V).k E K) (w : World) (hT : Tab w) :
    Calls Tryz.prog 10 #[.int .i64 n, A4 V] w fun r w' => r = .returned (.tuple #[.string (B (sdT n (unD n V).x (unD n V).k E K)), .int .i64 (E + (sdC n (unD n V).x (unD n V).k E K : Nat) + 1 - (sdT n (unD n V).x (unD n V).k E K).length), .int .i64 0]) ∧ Below w.heap.size w w' := by
  obtain ⟨hb, hk, hx1, hx2, hd⟩ := fin_facts h
  obtain ⟨b1, b2, b3⟩ := hS.bd hk h.2.2 ⟨hx1, hx2⟩
  have c22 : ∀ W, Tab W → Calls Tryz.prog 22 #[.int .i64 n, A4 V] W fun r w' => r = .returned (.tuple #[DV 1 (unD n V).s (unD n V).g (unD n V).x (unD n V).k, .int .i64 0]) ∧ Below W.heap.size W w' := fun W hW => by
    have := unpack_any n V W hW hV
    rw [show unE n V = 0 from if_pos h.1] at this
    unfold Dat.v at this
    rw [h.2.1] at this
    exact this
  have hc : sdC n (unD n V).x (unD n V).k E K ≤ 1 := by unfold sdC shC; split <;> omega
  have hl : (sdT n (unD n V).x (unD n V).k E K).length ≤ 1000 := by
    unfold sdT shT
    split
    · simp
    · rw [List.length_append, dsN_len]; simp; omega
  refine dig10_k n V 1 (unD n V).s (unD n V).g (unD n V).x (unD n V).k w hT c22 rfl (fun W => ?_) _ _ (by omega) hl (fun W hW => digitsOf_v 1 (unD n V).s (unD n V).g W hW hb hk h.2.2 ⟨hx1, hx2⟩ hS)
  have := none_v 1 (unD n V).s (unD n V).g (unD n V).x (unD n V).k W hk
  rw [decide_eq_false h.2.2] at this
  exact this
end Go.Proofs.YtckkibmehjlgaaaGreatDoor

namespace Go.Proofs.YtckkibmehjlgaaaGreatDoor
open Go.RowKit

attribute [local irreducible] W4
set_option maxHeartbeats 4000000 in
theorem lay_f1 (D : List UInt8) (e : Int) (w : World) (hT10 : Tb10 w) (he : -90000 ≤ e ∧ e ≤ 90000) (hD : D.length = 1) :
    Calls Tryz.prog 20 #[.bool false, .string (B D), .int .i64 e] w fun r w' => r = .returned (.string (B (sgL false ++ unT D (e + D.length - 1)))) ∧ Below w.heap.size w w' := by
  have c53 := fun W (h : Tb10 W) => itoa_any (e + D.length - 1) W (by omega) h
  have hi := itoa_short (e := e + D.length - 1) (by omega)
  have hz : (B D).size = 1 := by rw [B_size, hD]
  have HU : Hid ((sgL false) ++ unT D (e + D.length - 1) = ((([] : List UInt8) ++ D.take 1) ++ [101]) ++ Lib.itoa (e + D.length - 1)) := by
    show _ = _
    unfold unT
    rw [if_neg (show ¬ 1 < D.length by omega)]
    simp [sgL, List.append_assoc]
  generalize (sgL false) ++ unT D (e + D.length - 1) = TT at HU ⊢
  have htl := B_toList
  have ht : (B D).extract 0 1 = B (D.take 1) := by rw [B_ext, List.drop_zero]
  have y2 : (B (D.take 1)).size = 1 := by rw [B_size, List.length_take]; omega
  have p0 : (⟨#[]⟩ : ByteArray) ++ B (D.take 1) = B (([] : List UInt8) ++ D.take 1) := B_app ([] : List UInt8) _
  have z0 : (B (([] : List UInt8) ++ D.take 1)).size = 1 := by rw [B_size] at y2 ⊢; rw [List.length_append, y2]; rfl
  generalize hL2 : ([] : List UInt8) ++ D.take 1 = L2 at *
  have z2 := z0
  have p3 : B L2 ++ (⟨#[101]⟩ : ByteArray) = B (L2 ++ [101]) := B_app _ [101]
  have z3 : (B (L2 ++ [101])).size = 2 := by rw [B_size] at z2 ⊢; rw [List.length_append, z2]; rfl
  generalize hL3 : L2 ++ [101] = L3 at *
  have p4 : B L3 ++ B (Lib.itoa (e + D.length - 1)) = B (L3 ++ Lib.itoa (e + D.length - 1)) := B_app _ _
  obtain ⟨il, hil⟩ : ∃ il, (Lib.itoa (e + D.length - 1)).length = il := ⟨_, rfl⟩
  have z4 : (B (Lib.itoa (e + D.length - 1))).size = il := by rw [B_size]; exact hil
  have hil2 : il ≤ 100 := by omega
  clear hi hil
  generalize Lib.itoa (e + D.length - 1) = I at *
  generalize hL4 : L3 ++ I = L4 at *
  generalize hA : D.take 1 = A0 at *
  generalize hB : D.drop 1 = B0 at *
  clear hL4 hL3 hL2 hA hB
  rw [hD] at c53
  have hee : e + ((1 : Nat) : Int) - 1 = e := by omega
  rw [hee] at c53
  have c53' : ∀ W (y : Int), y = e → Tb10 W → Calls Tryz.prog 53 #[.int .i64 y] W fun r w' => r = .returned (.string (B I)) ∧ Below W.heap.size W w' := by rintro W y rfl h; exact c53 W h
  clear hD hee c53
  go_enter Tryz.func20, Tryz.ntmps20
  go_wp2_with (go_at_call 53; refine (c53' _ _ (by omega) (hT10.next bgo)).mono ?_; rintro r w3 ⟨rfl, hb3⟩)
  go_ret
  exact ⟨by rw [HU.out]; rfl, hb3⟩
set_option maxHeartbeats 4000000 in
theorem lay_fm (D : List UInt8) (e : Int) (w : World) (hT10 : Tb10 w) (he : -90000 ≤ e ∧ e ≤ 90000) (hD : 1 < D.length ∧ D.length ≤ 1000) :
    Calls Tryz.prog 20 #[.bool false, .string (B D), .int .i64 e] w fun r w' => r = .returned (.string (B (sgL false ++ unT D (e + D.length - 1)))) ∧ Below w.heap.size w w' := by
  obtain ⟨m, hm⟩ : ∃ m, D.length = m + 2 := ⟨D.length - 2, by omega⟩
  have hm2 : m ≤ 1000 := by omega
  have c53 := fun W (h : Tb10 W) => itoa_any (e + D.length - 1) W (by omega) h
  have hi := itoa_short (e := e + D.length - 1) (by omega)
  have hz : (B D).size = m + 2 := by rw [B_size, hm]
  have HU : Hid ((sgL false) ++ unT D (e + D.length - 1) = ((((([] : List UInt8) ++ D.take 1) ++ [46]) ++ D.drop 1) ++ [101]) ++ Lib.itoa (e + D.length - 1)) := by
    show _ = _
    unfold unT
    rw [if_pos hD.1]
    simp [sgL, List.append_assoc]
  have HS : Hid (e + ((m + 2 : Nat) : Int) - 1 = e + D.length - 1) := by show _ = _; rw [hm]
  generalize (sgL false) ++ unT D (e + D.length - 1) = TT at HU ⊢
  have htl := B_toList
  have ht : (B D).extract 0 1 = B (D.take 1) := by rw [B_ext, List.drop_zero]
  have y2 : (B (D.take 1)).size = 1 := by rw [B_size, List.length_take]; omega
  have p0 : (⟨#[]⟩ : ByteArray) ++ B (D.take 1) = B (([] : List UInt8) ++ D.take 1) := B_app ([] : List UInt8) _
  have z0 : (B (([] : List UInt8) ++ D.take 1)).size = 1 := by rw [B_size] at y2 ⊢; rw [List.length_append, y2]; rfl
  have hd : (B D).extract 1 (m + 2) = B (D.drop 1) := by have := B_drop D 1; rw [hz] at this; exact this
  have y0 : (B (D.drop 1)).size = m + 1 := by rw [B_size, List.length_drop, hm]; omega
  generalize hL0 : ([] : List UInt8) ++ D.take 1 = L0 at *
  have p1 : B L0 ++ (⟨#[46]⟩ : ByteArray) = B (L0 ++ [46]) := B_app _ [46]
  have z1 : (B (L0 ++ [46])).size = 2 := by rw [B_size] at z0 ⊢; rw [List.length_append, z0]; rfl
  generalize hL1 : L0 ++ [46] = L1 at *
  have p2 : B L1 ++ B (D.drop 1) = B (L1 ++ D.drop 1) := B_app _ _
  have z2 : (B (L1 ++ D.drop 1)).size = m + 3 := by rw [B_size] at z1 y0 ⊢; rw [List.length_append, z1, y0]; omega
  generalize hL2 : L1 ++ D.drop 1 = L2 at *
  have p3 : B L2 ++ (⟨#[101]⟩ : ByteArray) = B (L2 ++ [101]) := B_app _ [101]
  have z3 : (B (L2 ++ [101])).size = m + 4 := by rw [B_size] at z2 ⊢; rw [List.length_append, z2]; rfl
  generalize hL3 : L2 ++ [101] = L3 at *
  have p4 : B L3 ++ B (Lib.itoa (e + D.length - 1)) = B (L3 ++ Lib.itoa (e + D.length - 1)) := B_app _ _
  obtain ⟨il, hil⟩ : ∃ il, (Lib.itoa (e + D.length - 1)).length = il := ⟨_, rfl⟩
  have z4 : (B (Lib.itoa (e + D.length - 1))).size = il := by rw [B_size]; exact hil
  have hil2 : il ≤ 100 := by omega
  clear hi hil
  generalize Lib.itoa (e + D.length - 1) = I at *
  generalize hL4 : L3 ++ I = L4 at *
  generalize hA : D.take 1 = A0 at *
  generalize hB : D.drop 1 = B0 at *
  clear hL4 hL3 hL2 hA hB hL1 hL0
  rw [hm] at c53
  have hee : e + ((m + 2 : Nat) : Int) - 1 = e + m + 1 := by omega
  rw [hee] at c53
  have c53' : ∀ W (y : Int), y = e + m + 1 → Tb10 W → Calls Tryz.prog 53 #[.int .i64 y] W fun r w' => r = .returned (.string (B I)) ∧ Below W.heap.size W w' := by rintro W y rfl h; exact c53 W h
  clear hm hD HS hee c53
  go_enter Tryz.func20, Tryz.ntmps20
  go_wp2_with (go_at_call 53; refine (c53' _ _ (by omega) (hT10.next bgo)).mono ?_; rintro r w3 ⟨rfl, hb3⟩)
  go_ret
  exact ⟨by rw [HU.out]; rfl, hb3⟩
set_option maxHeartbeats 4000000 in
theorem lay_t1 (D : List UInt8) (e : Int) (w : World) (hT10 : Tb10 w) (he : -90000 ≤ e ∧ e ≤ 90000) (hD : D.length = 1) :
    Calls Tryz.prog 20 #[.bool true, .string (B D), .int .i64 e] w fun r w' => r = .returned (.string (B (sgL true ++ unT D (e + D.length - 1)))) ∧ Below w.heap.size w w' := by
  have c53 := fun W (h : Tb10 W) => itoa_any (e + D.length - 1) W (by omega) h
  have hi := itoa_short (e := e + D.length - 1) (by omega)
  have hz : (B D).size = 1 := by rw [B_size, hD]
  have HU : Hid ((sgL true) ++ unT D (e + D.length - 1) = (([45] ++ D.take 1) ++ [101]) ++ Lib.itoa (e + D.length - 1)) := by
    show _ = _
    unfold unT
    rw [if_neg (show ¬ 1 < D.length by omega)]
    simp [sgL, List.append_assoc]
  generalize (sgL true) ++ unT D (e + D.length - 1) = TT at HU ⊢
  have htl := B_toList
  have ht : (B D).extract 0 1 = B (D.take 1) := by rw [B_ext, List.drop_zero]
  have y2 : (B (D.take 1)).size = 1 := by rw [B_size, List.length_take]; omega
  have p0 : (⟨#[45]⟩ : ByteArray) ++ B (D.take 1) = B ([45] ++ D.take 1) := B_app [45] _
  have z0 : (B ([45] ++ D.take 1)).size = 2 := by rw [B_size] at y2 ⊢; rw [List.length_append, y2]; rfl
  generalize hL2 : [45] ++ D.take 1 = L2 at *
  have z2 := z0
  have p3 : B L2 ++ (⟨#[101]⟩ : ByteArray) = B (L2 ++ [101]) := B_app _ [101]
  have z3 : (B (L2 ++ [101])).size = 3 := by rw [B_size] at z2 ⊢; rw [List.length_append, z2]; rfl
  generalize hL3 : L2 ++ [101] = L3 at *
  have p4 : B L3 ++ B (Lib.itoa (e + D.length - 1)) = B (L3 ++ Lib.itoa (e + D.length - 1)) := B_app _ _
  obtain ⟨il, hil⟩ : ∃ il, (Lib.itoa (e + D.length - 1)).length = il := ⟨_, rfl⟩
  have z4 : (B (Lib.itoa (e + D.length - 1))).size = il := by rw [B_size]; exact hil
  have hil2 : il ≤ 100 := by omega
  clear hi hil
  generalize Lib.itoa (e + D.length - 1) = I at *
  generalize hL4 : L3 ++ I = L4 at *
  generalize hA : D.take 1 = A0 at *
  generalize hB : D.drop 1 = B0 at *
  clear hL4 hL3 hL2 hA hB
  rw [hD] at c53
  have hee : e + ((1 : Nat) : Int) - 1 = e := by omega
  rw [hee] at c53
  have c53' : ∀ W (y : Int), y = e → Tb10 W → Calls Tryz.prog 53 #[.int .i64 y] W fun r w' => r = .returned (.string (B I)) ∧ Below W.heap.size W w' := by rintro W y rfl h; exact c53 W h
  clear hD hee c53
  go_enter Tryz.func20, Tryz.ntmps20
  go_wp2_with (go_at_call 53; refine (c53' _ _ (by omega) (hT10.next bgo)).mono ?_; rintro r w3 ⟨rfl, hb3⟩)
  go_ret
  exact ⟨by rw [HU.out]; rfl, hb3⟩
set_option maxHeartbeats 4000000 in
theorem lay_tm (D : List UInt8) (e : Int) (w : World) (hT10 : Tb10 w) (he : -90000 ≤ e ∧ e ≤ 90000) (hD : 1 < D.length ∧ D.length ≤ 1000) :
    Calls Tryz.prog 20 #[.bool true, .string (B D), .int .i64 e] w fun r w' => r = .returned (.string (B (sgL true ++ unT D (e + D.length - 1)))) ∧ Below w.heap.size w w' := by
  obtain ⟨m, hm⟩ : ∃ m, D.length = m + 2 := ⟨D.length - 2, by omega⟩
  have hm2 : m ≤ 1000 := by omega
  have c53 := fun W (h : Tb10 W) => itoa_any (e + D.length - 1) W (by omega) h
  have hi := itoa_short (e := e + D.length - 1) (by omega)
  have hz : (B D).size = m + 2 := by rw [B_size, hm]
  have HU : Hid ((sgL true) ++ unT D (e + D.length - 1) = (((([45] ++ D.take 1) ++ [46]) ++ D.drop 1) ++ [101]) ++ Lib.itoa (e + D.length - 1)) := by
    show _ = _
    unfold unT
    rw [if_pos hD.1]
    simp [sgL, List.append_assoc]
  have HS : Hid (e + ((m + 2 : Nat) : Int) - 1 = e + D.length - 1) := by show _ = _; rw [hm]
  generalize (sgL true) ++ unT D (e + D.length - 1) = TT at HU ⊢
  have htl := B_toList
  have ht : (B D).extract 0 1 = B (D.take 1) := by rw [B_ext, List.drop_zero]
  have y2 : (B (D.take 1)).size = 1 := by rw [B_size, List.length_take]; omega
  have p0 : (⟨#[45]⟩ : ByteArray) ++ B (D.take 1) = B ([45] ++ D.take 1) := B_app [45] _
  have z0 : (B ([45] ++ D.take 1)).size = 2 := by rw [B_size] at y2 ⊢; rw [List.length_append, y2]; rfl
  have hd : (B D).extract 1 (m + 2) = B (D.drop 1) := by have := B_drop D 1; rw [hz] at this; exact this
  have y0 : (B (D.drop 1)).size = m + 1 := by rw [B_size, List.length_drop, hm]; omega
  generalize hL0 : [45] ++ D.take 1 = L0 at *
  have p1 : B L0 ++ (⟨#[46]⟩ : ByteArray) = B (L0 ++ [46]) := B_app _ [46]
  have z1 : (B (L0 ++ [46])).size = 3 := by rw [B_size] at z0 ⊢; rw [List.length_append, z0]; rfl
  generalize hL1 : L0 ++ [46] = L1 at *
  have p2 : B L1 ++ B (D.drop 1) = B (L1 ++ D.drop 1) := B_app _ _
  have z2 : (B (L1 ++ D.drop 1)).size = m + 4 := by rw [B_size] at z1 y0 ⊢; rw [List.length_append, z1, y0]; omega
  generalize hL2 : L1 ++ D.drop 1 = L2 at *
  have p3 : B L2 ++ (⟨#[101]⟩ : ByteArray) = B (L2 ++ [101]) := B_app _ [101]
  have z3 : (B (L2 ++ [101])).size = m + 5 := by rw [B_size] at z2 ⊢; rw [List.length_append, z2]; rfl
  generalize hL3 : L2 ++ [101] = L3 at *
  have p4 : B L3 ++ B (Lib.itoa (e + D.length - 1)) = B (L3 ++ Lib.itoa (e + D.length - 1)) := B_app _ _
  obtain ⟨il, hil⟩ : ∃ il, (Lib.itoa (e + D.length - 1)).length = il := ⟨_, rfl⟩
  have z4 : (B (Lib.itoa (e + D.length - 1))).size = il := by rw [B_size]; exact hil
  have hil2 : il ≤ 100 := by omega
  clear hi hil
  generalize Lib.itoa (e + D.length - 1) = I at *
  generalize hL4 : L3 ++ I = L4 at *
  generalize hA : D.take 1 = A0 at *
  generalize hB : D.drop 1 = B0 at *
  clear hL4 hL3 hL2 hA hB hL1 hL0
  rw [hm] at c53
  have hee : e + ((m + 2 : Nat) : Int) - 1 = e + m + 1 := by omega
  rw [hee] at c53
  have c53' : ∀ W (y : Int), y = e + m + 1 → Tb10 W → Calls Tryz.prog 53 #[.int .i64 y] W fun r w' => r = .returned (.string (B I)) ∧ Below W.heap.size W w' := by rintro W y rfl h; exact c53 W h
  clear hm hD HS hee c53
  go_enter Tryz.func20, Tryz.ntmps20
  go_wp2_with (go_at_call 53; refine (c53' _ _ (by omega) (hT10.next bgo)).mono ?_; rintro r w3 ⟨rfl, hb3⟩)
  go_ret
  exact ⟨by rw [HU.out]; rfl, hb3⟩
theorem lay_v (s : Bool) (D : List UInt8) (e : Int) (w : World) (hT10 : Tb10 w) (he : -90000 ≤ e ∧ e ≤ 90000) (hD : 1 ≤ D.length ∧ D.length ≤ 1000) :
    Calls Tryz.prog 20 #[.bool s, .string (B D), .int .i64 e] w fun r w' => r = .returned (.string (B (sgL s ++ unT D (e + D.length - 1)))) ∧ Below w.heap.size w w' := by
  by_cases h1 : D.length = 1
  · cases s
    · exact lay_f1 D e w hT10 he h1
    · exact lay_t1 D e w hT10 he h1
  · cases s
    · exact lay_fm D e w hT10 he (by omega)
    · exact lay_tm D e w hT10 he (by omega)
end Go.Proofs.YtckkibmehjlgaaaGreatDoor
