/-
  Texts that the proof leans on.
-/
import Derived.Test.YtpemdcnneabbfaaGreatDoorJ11
import Derived.Deep.RegionHeld3
import Derived.BigRegion
import Derived.Deep.DrawnRows
set_option linter.unusedVariables false
set_option linter.unusedSimpArgs false
set_option linter.unusedSectionVars false
set_option maxRecDepth 20000
namespace Go.Proofs.YtpemdcnneabbfaaGreatDoor
open Go.RowKit
section
attribute [local go_sem ↓] Go.wp_at_zero Go.wp_at_succ
attribute [local go_sem] setCell_drewN alloc_drewN

/-- 'or' of two words -/
def orW (a b : Int) : Int := bits BinOp.or IntKind.u64 a b
theorem orW_eq (a b : Int) (ha : 0 ≤ a ∧ a ≤ 18446744073709551615) (hb : 0 ≤ b ∧ b ≤ 18446744073709551615) : orW a b = ((a.toNat ||| b.toNat : Nat) : Int) := u64_or a b ha.1 (by omega) hb.1 (by omega)
theorem orW_comm (a b : Int) (ha : 0 ≤ a ∧ a ≤ 18446744073709551615) (hb : 0 ≤ b ∧ b ≤ 18446744073709551615) : orW a b = orW b a := by
  rw [orW_eq a b ha hb, orW_eq b a hb ha, Nat.or_comm]
theorem orW_zero (a : Int) (ha : 0 ≤ a ∧ a ≤ 18446744073709551615) : orW a 0 = a := by
  rw [orW_eq a 0 ha (by decide)]; simp; omega
theorem zero_orW (a : Int) (ha : 0 ≤ a ∧ a ≤ 18446744073709551615) : orW 0 a = a := by
  rw [orW_eq 0 a (by decide) ha]; simp; omega
theorem orW_word (a b : Int) (ha : 0 ≤ a ∧ a ≤ 18446744073709551615) (hb : 0 ≤ b ∧ b ≤ 18446744073709551615) : 0 ≤ orW a b ∧ orW a b ≤ 18446744073709551615 := by
  rw [orW_eq a b ha hb]
  have : a.toNat ||| b.toNat < 2 ^ 64 := Nat.or_lt_two_pow (by omega) (by omega)
  omega
theorem wrap_word (a : Int) : 0 ≤ IntKind.u64.wrap a ∧ IntKind.u64.wrap a ≤ 18446744073709551615 := by
  simp only [IntKind.wrap, IntKind.bits, IntKind.signed]
  have h1 := Int.emod_nonneg a (b := 18446744073709551616) (by decide)
  have h2 := Int.emod_lt_of_pos a (b := 18446744073709551616) (by decide)
  simp; omega
theorem wrap_id (a : Int) (ha : 0 ≤ a ∧ a ≤ 18446744073709551615) : IntKind.u64.wrap a = a := by
  simp only [IntKind.wrap, IntKind.bits, IntKind.signed]
  simp; omega
theorem div_word (a : Int) (e : Nat) (ha : 0 ≤ a ∧ a ≤ 18446744073709551615) : 0 ≤ a / 2 ^ e ∧ a / 2 ^ e ≤ 18446744073709551615 := by
  have hp : (0 : Int) < 2 ^ e := Int.pow_pos (by decide)
  have h1 := Int.ediv_nonneg ha.1 (Int.le_of_lt hp)
  have h2 := Int.ediv_le_self (2 ^ e) ha.1
  omega

/-- the bits that come in from the word below -/
def lowp (x : Nat → Int) (q r j : Nat) : Int := if q + 1 ≤ j ∧ 0 < r then x (j - q - 1) / 2 ^ (64 - r) else 0
/-- the words of x times 2^(64 q + r) -/
def finL (x : Nat → Int) (q r j : Nat) : Int := if q ≤ j then orW (lowp x q r j) (IntKind.u64.wrap (x (j - q) * 2 ^ r)) else 0
def stL (x : Nat → Int) (q r k j : Nat) : Int := if j < q + k then finL x q r j else if j = q + k then lowp x q r j else 0
theorem lowp_word {x : Nat → Int} (hx : Words x) (q r j : Nat) : 0 ≤ lowp x q r j ∧ lowp x q r j ≤ 18446744073709551615 := by
  unfold lowp; split
  · exact div_word _ _ (hx _)
  · decide
theorem finL_words {x : Nat → Int} (hx : Words x) (q r : Nat) : Words (finL x q r) := fun j => by
  unfold finL; split
  · exact orW_word _ _ (lowp_word hx q r j) (wrap_word _)
  · decide
theorem finL_zero {x : Nat → Int} {n : Nat} (hx : Words x) (zx : ∀ i, n ≤ i → x i = 0) (q r : Nat) (hr : r < 64) : ∀ j, n + q + 1 ≤ j → finL x q r j = 0 := by
  intro j hj
  unfold finL
  rw [if_pos (by omega), zx (j - q) (by omega)]
  have : lowp x q r j = 0 := by
    unfold lowp; split
    · rw [zx (j - q - 1) (by omega)]; simp
    · rfl
  rw [this, Int.zero_mul, wrap_id 0 (by decide), orW_zero 0 (by decide)]
theorem stL_end {x : Nat → Int} {n : Nat} (hx : Words x) (zx : ∀ i, n ≤ i → x i = 0) (q r j : Nat) (hj : j < n + q + 1) : stL x q r n j = finL x q r j := by
  unfold stL
  by_cases h : j < q + n
  · rw [if_pos h]
  · obtain rfl : j = q + n := by omega
    rw [if_neg h, if_pos rfl]
    unfold finL
    rw [if_pos (by omega), zx (q + n - q) (by omega), Int.zero_mul, wrap_id 0 (by decide), orW_zero _ (lowp_word hx q r _)]
theorem stL_step0 {x : Nat → Int} {q k : Nat} {ss : Array Value} (hss : ∀ j h, ss[j]'h = Value.int .u64 (stL x q 0 k j)) (j : Nat) (h : j < (ss.setIfInBounds (k + q) (.int .u64 (finL x q 0 (q + k)))).size) : (ss.setIfInBounds (k + q) (.int .u64 (finL x q 0 (q + k))))[j]'h = Value.int .u64 (stL x q 0 (k + 1) j) := by
  have h' : j < ss.size := by simpa using h
  rw [Array.getElem_setIfInBounds]
  by_cases e : k + q = j
  · subst e; rw [if_pos rfl]; unfold stL; rw [if_pos (by omega), Nat.add_comm]
  · rw [if_neg e, hss j h']
    unfold stL
    by_cases e2 : j < q + k
    · rw [if_pos e2, if_pos (by omega)]
    · rw [if_neg e2, if_neg (by omega), if_neg (by omega)]
      have : lowp x q 0 j = 0 := by unfold lowp; rw [if_neg (by omega)]
      rw [this]; split <;> rfl
  exact h'
theorem stL_step1 {x : Nat → Int} {q r k : Nat} (hr : 0 < r) {ss : Array Value} (hss : ∀ j h, ss[j]'h = Value.int .u64 (stL x q r k j)) (j : Nat) (h : j < ((ss.setIfInBounds (k + q) (.int .u64 (finL x q r (q + k)))).setIfInBounds (k + q + 1) (.int .u64 (x k / 2 ^ (64 - r)))).size) : ((ss.setIfInBounds (k + q) (.int .u64 (finL x q r (q + k)))).setIfInBounds (k + q + 1) (.int .u64 (x k / 2 ^ (64 - r))))[j]'h = Value.int .u64 (stL x q r (k + 1) j) := by
  have h' : j < ss.size := by simpa using h
  rw [Array.getElem_setIfInBounds (by simpa using h')]
  by_cases e0 : k + q + 1 = j
  · subst e0; rw [if_pos rfl]; unfold stL; rw [if_neg (by omega), if_pos (by omega)]; unfold lowp; rw [if_pos ⟨by omega, hr⟩, show k + q + 1 - q - 1 = k by omega]
  · rw [if_neg e0, Array.getElem_setIfInBounds h']
    by_cases e : k + q = j
    · subst e; rw [if_pos rfl]; unfold stL; rw [if_pos (by omega), Nat.add_comm]
    · rw [if_neg e, hss j h']
      unfold stL
      by_cases e2 : j < q + k
      · rw [if_pos e2, if_pos (by omega)]
      · rw [if_neg e2, if_neg (by omega), if_neg (by omega), if_neg (by omega)]

set_option maxHeartbeats 1000000 in
theorem left_z (b off n c q : Nat) (s : Int) (x : Nat → Int) (w : World) (hn : n < 4000000000) (hq0 : q < 100000)  (hq : s / 64 = q) (hr : s % 64 = 0) (hs : 0 ≤ s) (h : Num w (some ⟨b, off, none⟩) n c x) :
    Calls Tryz.prog 71 #[.slice (some ⟨b, off, none⟩) n c, .int .i64 s] w fun e w' => ∃ g k cap, e = .returned (.slice (some ⟨g, 0, none⟩) k cap) ∧ k ≤ n + q + 1 ∧ Num w' (some ⟨g, 0, none⟩) k cap (finL x q 0) ∧ Below w.heap.size w w' := by
  have hx := h.2.2.1
  have zx := h.2.2.2.1
  have hc : b < w.heap.size ∧ ∀ i, i < n → w.cell? ⟨b, off + i, none⟩ = some (.int .u64 (x i)) := by
    rcases h.2.2.2.2 with ⟨h, _⟩ | ⟨b', off', h, hbs, hc⟩
    · cases h
    · cases h; exact ⟨hbs, hc⟩
  obtain ⟨hbs, hc⟩ := hc
  have hcap := h.1
  have hs6 : s < 6400064 := by omega
  obtain ⟨M, hM⟩ : ∃ M, n + q + 1 = M := ⟨_, rfl⟩
  have hMi : (n : Int) + q + 1 = (M : Int) := by omega
  have hmk := fun w => make_any ((n : Int) + q + 1) M hMi (by omega) w
  have hfin : ∀ (ss : Array Value) (m : Nat), ss.size = M → (∀ j h, ss[j]'h = Value.int .u64 (stL x q 0 n j)) → Num ((w.alloc (.cells ss 23)).drewN m) (some ⟨w.heap.size, 0, none⟩) M M (finL x q 0) := fun ss m h1 h2 => (num_of_block (by omega) (finL_words hx q 0) (fun i hi => finL_zero hx zx q 0 (by omega) i (by omega)) h1 (fun j hj => by rw [h2 j hj, stL_end hx zx q 0 j (by omega)])).drewN m
  have HM : Hid (n + q + 1 = M) := hM
  have HZ : Hid ((arrOf (fun _ => 0) M).size = M ∧ ∀ j h, (arrOf (fun _ => 0) M)[j]'h = Value.int .u64 0) := ⟨arrOf_size _ _, fun j h => arrOf_get _ _ _ _⟩
  have hcw : ∀ (ss : Array Value) i, i < n → (w.alloc (.cells ss 23)).cell? ⟨b, off + i, none⟩ = some (.int .u64 (x i)) := fun ss i hi => ((below1 w _).cell (p := ⟨b, off + i, none⟩) hbs).trans (hc i hi)
  clear h zx hMi hc
  generalize arrOf (fun _ => 0) M = zz at *
  go_enter Tryz.func71, Tryz.ntmps71
  go_wp2
  go_loopw [6, 16] (fun u6 i wr => ∃ (k m : Nat) (ss : Array Value), k ≤ n ∧ i = .int .i64 k ∧ ss.size = M ∧ (∀ j h, ss[j]'h = Value.int .u64 (stL x q 0 k j)) ∧ wr = (w.alloc (.cells ss 23)).drewN m) (fun _ i _ => n - (intOf i).toNat)
  case atStart => exact ⟨0, 0, zz, Nat.zero_le _, rfl, HZ.out.1, fun j h => by rw [HZ.out.2 j h]; unfold stL; (by_cases e : j < q + 0); (rw [if_pos e]; unfold finL; rw [if_neg (by omega)]); (rw [if_neg e]; split; (unfold lowp; rw [if_neg (by omega)]); rfl), rfl⟩
  case round =>
    obtain ⟨k, m, ss, hk, rfl, hsz, hss, rfl⟩ := hrel
    by_cases h8 : k < n
    · have h8i : (k : Int) < n := by omega
      have h8s : k + q < ss.size := by omega
      have h8t : (k : Int) + q < M := by omega
      have h8u : (k : Int) + q + 1 < M := by omega
      have bx := hx k
      have hcx := hcw ss k h8
      have hsk : ss[k + q]? = some (.int .u64 (lowp x q 0 (q + k))) := by rw [Array.getElem?_eq_getElem h8s, hss _ h8s]; unfold stL; rw [if_neg (by omega), if_pos (by omega), Nat.add_comm]
      have hgo : ∀ h, ss[k + q]'h = .int .u64 (lowp x q 0 (q + k)) := fun h => by rw [hss _ h]; unfold stL; rw [if_neg (by omega), if_pos (by omega), Nat.add_comm]
      have hlow := lowp_word hx q 0 (q + k)
      have e1 : ((k : Int) + q).toNat = k + q := by omega
      have e2 : ((k : Int) + q + 1).toNat = k + q + 1 := by omega
      have HF : Hid (finL x q 0 (q + k) = bits BinOp.or IntKind.u64 (lowp x q 0 (q + k)) (x k)) := by
        show _ = _; unfold finL; rw [if_pos (by omega), show q + k - q = k by omega]; simp [orW, wrap_id _ bx]
      have HR : Hid (∀ (i : Nat) (h : i < (ss.setIfInBounds (k + q) (.int .u64 (finL x q 0 (q + k)))).size), (ss.setIfInBounds (k + q) (.int .u64 (finL x q 0 (q + k))))[i]'h = Value.int .u64 (stL x q 0 (k + 1) i)) := stL_step0 hss
      clear hss hfin hmk hx
      generalize hlo : lowp x q 0 (q + k) = lo at *
      clear hcw
      go_wp2
      go_region
      go_wp2
      go_roundw
      case rel => refine ⟨k + 1, m + 1, ss.setIfInBounds (k + q) (.int .u64 (finL x q 0 (q + k))), by omega, by go_num, by simp [hsz], HR.out, ?_⟩; rw [HF.out]
      case measure => simp [intOf]; omega
    · obtain rfl : k = n := by omega
      have hT := trim_any _ _ _ _ _ (by omega) (hfin ss m hsz hss)
      have hle := sizeL_le (finL x q 0) M
      clear hss hfin hmk hx hcw
      go_wp2_with (go_at_call 18; refine hT.mono ?_; rintro e w1 ⟨g, cap, rfl, hN, hB⟩)
      go_ret
      exact ⟨g, _, cap, rfl, Nat.le_trans hle (Nat.le_of_eq HM.out.symm), hN, (below_drewN (below1 w _) m).trans (hB.mono (by simp))⟩

set_option maxHeartbeats 1000000 in
theorem left_p (b off n c q r : Nat) (s : Int) (x : Nat → Int) (w : World) (hn : n < 4000000000) (hq0 : q < 100000) (hr0 : r < 64) (hrp : 0 < r) (hq : s / 64 = q) (hr : s % 64 = r) (hs : 0 ≤ s) (h : Num w (some ⟨b, off, none⟩) n c x) :
    Calls Tryz.prog 71 #[.slice (some ⟨b, off, none⟩) n c, .int .i64 s] w fun e w' => ∃ g k cap, e = .returned (.slice (some ⟨g, 0, none⟩) k cap) ∧ k ≤ n + q + 1 ∧ Num w' (some ⟨g, 0, none⟩) k cap (finL x q r) ∧ Below w.heap.size w w' := by
  have hx := h.2.2.1
  have zx := h.2.2.2.1
  have hc : b < w.heap.size ∧ ∀ i, i < n → w.cell? ⟨b, off + i, none⟩ = some (.int .u64 (x i)) := by
    rcases h.2.2.2.2 with ⟨h, _⟩ | ⟨b', off', h, hbs, hc⟩
    · cases h
    · cases h; exact ⟨hbs, hc⟩
  obtain ⟨hbs, hc⟩ := hc
  have hcap := h.1
  have hs6 : s < 6400064 := by omega
  obtain ⟨M, hM⟩ : ∃ M, n + q + 1 = M := ⟨_, rfl⟩
  have hMi : (n : Int) + q + 1 = (M : Int) := by omega
  have hmk := fun w => make_any ((n : Int) + q + 1) M hMi (by omega) w
  have hfin : ∀ (ss : Array Value) (m : Nat), ss.size = M → (∀ j h, ss[j]'h = Value.int .u64 (stL x q r n j)) → Num ((w.alloc (.cells ss 23)).drewN m) (some ⟨w.heap.size, 0, none⟩) M M (finL x q r) := fun ss m h1 h2 => (num_of_block (by omega) (finL_words hx q r) (fun i hi => finL_zero hx zx q r (by omega) i (by omega)) h1 (fun j hj => by rw [h2 j hj, stL_end hx zx q r j (by omega)])).drewN m
  have HM : Hid (n + q + 1 = M) := hM
  have HZ : Hid ((arrOf (fun _ => 0) M).size = M ∧ ∀ j h, (arrOf (fun _ => 0) M)[j]'h = Value.int .u64 0) := ⟨arrOf_size _ _, fun j h => arrOf_get _ _ _ _⟩
  have hcw : ∀ (ss : Array Value) i, i < n → (w.alloc (.cells ss 23)).cell? ⟨b, off + i, none⟩ = some (.int .u64 (x i)) := fun ss i hi => ((below1 w _).cell (p := ⟨b, off + i, none⟩) hbs).trans (hc i hi)
  clear h zx hMi hc
  generalize arrOf (fun _ => 0) M = zz at *
  go_enter Tryz.func71, Tryz.ntmps71
  go_wp2
  go_loopw [6, 16] (fun u6 i wr => ∃ (k m : Nat) (ss : Array Value), k ≤ n ∧ i = .int .i64 k ∧ ss.size = M ∧ (∀ j h, ss[j]'h = Value.int .u64 (stL x q r k j)) ∧ wr = (w.alloc (.cells ss 23)).drewN m) (fun _ i _ => n - (intOf i).toNat)
  case atStart => exact ⟨0, 0, zz, Nat.zero_le _, rfl, HZ.out.1, fun j h => by rw [HZ.out.2 j h]; unfold stL; (by_cases e : j < q + 0); (rw [if_pos e]; unfold finL; rw [if_neg (by omega)]); (rw [if_neg e]; split; (unfold lowp; rw [if_neg (by omega)]); rfl), rfl⟩
  case round =>
    obtain ⟨k, m, ss, hk, rfl, hsz, hss, rfl⟩ := hrel
    by_cases h8 : k < n
    · have h8i : (k : Int) < n := by omega
      have h8s : k + q < ss.size := by omega
      have h8t : (k : Int) + q < M := by omega
      have h8u : (k : Int) + q + 1 < M := by omega
      have bx := hx k
      have hcx := hcw ss k h8
      have hsk : ss[k + q]? = some (.int .u64 (lowp x q r (q + k))) := by rw [Array.getElem?_eq_getElem h8s, hss _ h8s]; unfold stL; rw [if_neg (by omega), if_pos (by omega), Nat.add_comm]
      have hgo : ∀ h, ss[k + q]'h = .int .u64 (lowp x q r (q + k)) := fun h => by rw [hss _ h]; unfold stL; rw [if_neg (by omega), if_pos (by omega), Nat.add_comm]
      have h8v : k + q + 1 < ss.size := by omega
      have hsl : ss[k + q + 1]? = some (.int .u64 0) := by rw [Array.getElem?_eq_getElem h8v, hss _ h8v]; unfold stL; rw [if_neg (by omega), if_neg (by omega)]
      have hlow := lowp_word hx q r (q + k)
      have e1 : ((k : Int) + q).toNat = k + q := by omega
      have e2 : ((k : Int) + q + 1).toNat = k + q + 1 := by omega
      have HF : Hid (finL x q r (q + k) = bits BinOp.or IntKind.u64 (lowp x q r (q + k)) (IntKind.u64.wrap (x k * 2 ^ r))) := by
        show _ = _; unfold finL; rw [if_pos (by omega), show q + k - q = k by omega]; rfl
      have HR : Hid (∀ (i : Nat) (h : i < ((ss.setIfInBounds (k + q) (.int .u64 (finL x q r (q + k)))).setIfInBounds (k + q + 1) (.int .u64 (x k / 2 ^ (64 - r)))).size), ((ss.setIfInBounds (k + q) (.int .u64 (finL x q r (q + k)))).setIfInBounds (k + q + 1) (.int .u64 (x k / 2 ^ (64 - r))))[i]'h = Value.int .u64 (stL x q r (k + 1) i)) := stL_step1 hrp hss
      clear hss hfin hmk hx
      generalize hlo : lowp x q r (q + k) = lo at *
      have hcx' := hcw (ss.setIfInBounds (k + q) (.int .u64 (bits BinOp.or IntKind.u64 lo (IntKind.u64.wrap (x k * 2 ^ r))))) k h8
      clear hcw
      go_wp2
      go_region
      go_wp2
      go_roundw
      case rel => refine ⟨k + 1, m + 1, (ss.setIfInBounds (k + q) (.int .u64 (finL x q r (q + k)))).setIfInBounds (k + q + 1) (.int .u64 (x k / 2 ^ (64 - r))), by omega, by go_num, by simp [hsz], HR.out, ?_⟩; rw [HF.out]
      case measure => simp [intOf]; omega
    · obtain rfl : k = n := by omega
      have hT := trim_any _ _ _ _ _ (by omega) (hfin ss m hsz hss)
      have hle := sizeL_le (finL x q r) M
      clear hss hfin hmk hx hcw
      go_wp2_with (go_at_call 18; refine hT.mono ?_; rintro e w1 ⟨g, cap, rfl, hN, hB⟩)
      go_ret
      exact ⟨g, _, cap, rfl, Nat.le_trans hle (Nat.le_of_eq HM.out.symm), hN, (below_drewN (below1 w _) m).trans (hB.mono (by simp))⟩
end
section
/-- the words of x divided by 2^(64 q + r) -/
def shrW (x : Nat → Int) (q r j : Nat) : Int := if r = 0 then x (q + j) else orW (x (q + j) / 2 ^ r) (IntKind.u64.wrap (x (q + j + 1) * 2 ^ (64 - r)))
theorem shrW_words {x : Nat → Int} (hx : Words x) (q r : Nat) : Words (shrW x q r) := fun j => by
  unfold shrW; split
  · exact hx _
  · exact orW_word _ _ (div_word _ _ (hx _)) (wrap_word _)
theorem shrW_zero {x : Nat → Int} {n : Nat} (zx : ∀ i, n ≤ i → x i = 0) (q r j : Nat) (hj : n ≤ q + j) : shrW x q r j = 0 := by
  unfold shrW; split
  · exact zx _ hj
  · rw [zx _ hj, zx (q + j + 1) (by omega), Int.zero_mul, Int.zero_ediv, wrap_id 0 (by decide), orW_zero 0 (by decide)]
def wl (f : Nat → Int) (k : Nat) : List Value := (List.range k).map fun i => Value.int .u64 (f i)
theorem wl_succ (f : Nat → Int) (k : Nat) : wl f k ++ [Value.int .u64 (f k)] = wl f (k + 1) := by simp [wl, List.range_succ]
theorem num_of_owns' {w' : World} {ao : Option Addr} {k cap base : Nat} {x : Nat → Int} (hx : Words x) (hz : ∀ i, k ≤ i → x i = 0) (h : w'.ownsRow base 23 1 (.slice ao k cap) k (wl x k)) : Num w' ao k cap x := by
  have h0 := h
  obtain ⟨hl, h1⟩ := h0
  rcases h1 with ⟨h1, h2⟩ | ⟨g, cap', cur, he, hb, hh, _⟩
  · cases h1
    exact ⟨Nat.le_refl _, by unfold maxLen; omega, hx, hz, Or.inl ⟨rfl, rfl⟩⟩
  · cases he
    exact num_of_owns (w := w') hx hz h (by
      rcases Nat.lt_or_ge g w'.heap.size with h3 | h3
      · exact h3
      · rw [Array.getElem?_eq_none h3] at hh; cases hh)

set_option maxHeartbeats 1000000 in
theorem right_z (b off n c q : Nat) (s : Int) (x : Nat → Int) (w : World) (hn : n < 4000000000) (hq0 : q < 100000)  (hq : s / 64 = q) (hr : s % 64 = 0) (hs : 0 ≤ s) (h : Num w (some ⟨b, off, none⟩) n c x) :
    Calls Tryz.prog 34 #[.slice (some ⟨b, off, none⟩) n c, .int .i64 s] w fun e w' => ∃ g k cap z, e = .returned (.tuple #[.slice (some ⟨g, 0, none⟩) k cap, .bool z]) ∧ k ≤ n ∧ Num w' (some ⟨g, 0, none⟩) k cap (shrW x q 0) ∧ Below w.heap.size w w' := by
  have hx := h.2.2.1
  have zx := h.2.2.2.1
  have hc : b < w.heap.size ∧ ∀ i, i < n → w.cell? ⟨b, off + i, none⟩ = some (.int .u64 (x i)) := by
    rcases h.2.2.2.2 with ⟨h, _⟩ | ⟨b', off', h, hbs, hc⟩
    · cases h
    · cases h; exact ⟨hbs, hc⟩
  obtain ⟨hbs, hc⟩ := hc
  have hcap := h.1
  have hs6 : s < 6400064 := by omega
  obtain ⟨i0, hi, hz0, hz1, hz2⟩ := info_parts Tryz.info23
  have HX : Hid (Num w (some ⟨b, off, none⟩) n c x) := h
  clear h
  go_enter Tryz.func34, Tryz.ntmps34
  go_wp2
  go_loop [6, 7, 13] (fun g u7 i => ∃ (k : Nat) (z : Bool), k ≤ n ∧ i = .int .i64 k ∧ g = .bool z) (fun _ _ i => n - (intOf i).toNat)
  case atStart => exact ⟨0, false, Nat.zero_le _, rfl, rfl⟩
  case round =>
    obtain ⟨k, z, hk, rfl, rfl⟩ := hrel
    by_cases h8 : k < n
    · have h8i : (k : Int) < n := by omega
      by_cases hkq : k < q
      · have bx := hx k
        have hcx := hc k h8
        clear hc hx zx hi hz0 hz1 hz2
        have hkq' : (k : Int) < q := by omega
        by_cases hz : x k = 0
        · have hz' : (x k != 0) = false := by simp [hz]
          have hne : ((k : Int) == q) = false := by simp; omega
          go_wp2
          go_round
          case rel => exact ⟨k + 1, z, by omega, by go_num, rfl⟩
          case measure => simp [intOf]; omega
        · have hz' : (x k != 0) = true := by simp [hz]
          go_wp2
          go_round
          case rel => exact ⟨k + 1, true, by omega, by go_num, rfl⟩
          case measure => simp [intOf]; omega
      · have hkq' : ¬ (k : Int) < q := by omega
        by_cases hke : k = q
        · subst hke
          have bx := hx k
          have hcx := hc k h8
          clear hc hx zx hi hz0 hz1 hz2
          go_wp2
          all_goals
            go_round
            case rel => first | exact ⟨k + 1, true, by omega, by go_num, rfl⟩ | exact ⟨k + 1, z, by omega, by go_num, rfl⟩
            case measure => simp [intOf]; omega
        · have hcx := hc k h8
          clear hc hx zx hi hz0 hz1 hz2
          have hne : ((k : Int) == q) = false := by simp; omega
          go_wp2
          go_round
          case rel => exact ⟨k + 1, z, by omega, by go_num, rfl⟩
          case measure => simp [intOf]; omega
    · obtain rfl : k = n := by omega
      go_wp2
      go_loopw [8, 9, 10] (fun v i u10 wr => ∃ (j : Nat) (ao : Option Addr) (cp : Nat), j ≤ k - q ∧ i = .int .i64 ((q : Int) + j) ∧ v = .slice ao j cp ∧ wr.ownsRow w.heap.size 23 1 (.slice ao j cp) j (wl (shrW x q 0) j) ∧ Below w.heap.size w wr) (fun _ i _ _ => k + 1 - (intOf i).toNat)
      case atStart => exact ⟨0, none, 0, Nat.zero_le _, by go_num, rfl, World.ownsRow_nil _ _ _ _, Below.refl _ _⟩
      case round =>
        obtain ⟨j, ao, cp, hj, rfl, rfl, hown, hB⟩ := hrel
        by_cases hlt : q + j < k
        · have hlt' : (q : Int) + j < k := by omega
          have bx := hx (q + j)
          have b_y := hx (q + j + 1)
          have e1 : ((q : Int) + j).toNat = q + j := by omega
          have hcx : wr.cell? ⟨b, off + (q + j), none⟩ = some (.int .u64 (x (q + j))) := (hB.cell (p := ⟨b, off + (q + j), none⟩) hbs).trans (hc (q + j) hlt)
          have HW : Hid (Calls Tryz.prog 20 #[.slice (some ⟨b, off, none⟩) k c, .int .i64 ((q : Int) + j + 1)] wr fun e w' => e = .returned (.int .u64 (x (q + j + 1))) ∧ wr = w') := by
            have := word_any (some ⟨b, off, none⟩) k c (q + j + 1) x wr (HX.out.next hB)
            rw [show ((q + j + 1 : Nat) : Int) = (q : Int) + j + 1 by omega] at this
            exact this.mono fun _ _ h => ⟨h.1, h.2.symm⟩
          have hbw := hB.size
          have HO : Hid (wr.ownsRow w.heap.size 23 1 (.slice ao j cp) j (wl (shrW x q 0) j)) := hown
          have HVAL : Hid (shrW x q 0 j = x (q + j)) := by show _ = _; simp [shrW]
          have HOWN : (wr.alloc (.cells #[.int .u64 (x (q + j))] 23)).ownsRow w.heap.size 23 1 (.slice ao j cp) j (wl (shrW x q 0) j) := hown.alloc _
          have HNEWS : ∀ (p : Nat) (u : Value), [Value.int .u64 (x (q + j))][p]? = some u → (wr.alloc (.cells #[.int .u64 (x (q + j))] 23)).cell? ((⟨wr.heap.size, 0, none⟩ : Addr).add p) = some u := by
            intro p u hp
            match p, hp with
            | 0, hp => simp at hp; subst hp; simp [Addr.add]
          have HONE : ∀ u ∈ [Value.int .u64 (x (q + j))], u.oneCell' = true := by
            intro u hu; simp at hu; subst hu; rfl
          clear hc hx zx hown
          go_wp2_with (first | (at_builtin; refine wpList_append_lies _ rfl (.tmp 77) (.tmp 79) 30 rfl w.heap.size 23 i0 (.int .u64 0) 1 8 Tryz.underlying30 hi hz0 hz1 hz2 rfl (by decide) (.slice ao j cp) j (wl (shrW x q 0) j) rfl HOWN ⟨wr.heap.size, 0, none⟩ 1 1 [Value.int .u64 (x (q + j))] rfl rfl HNEWS HONE (by omega) (by unfold maxLen; omega) (by omega) (by simp; omega) (wr.heap.size + 1) (by simp) ?_; intro g cap w1 hown1 hgrow hat hlt1; clear HOWN HNEWS HONE) | (go_at_call 20; refine HW.out.mono ?_; rintro e w' ⟨rfl, rfl⟩))
          have hown2 : w1.ownsRow w.heap.size 23 1 (.slice (some ⟨g, 0, none⟩) (j + 1) cap) (j + 1) (wl (shrW x q 0) (j + 1)) := by
            rw [← HVAL.out, wl_succ] at hown1; exact hown1
          have HB2 : Below w.heap.size w w1 := (hB.alloc hbw _).grown hgrow (by simp; omega) (by
            intro p hp
            rcases ao with _ | ⟨bb, oo, sp⟩
            · cases hp
            · cases hp
              obtain ⟨_, h1⟩ := HO.out
              rcases h1 with ⟨h1, _⟩ | ⟨g', _, _, h1, h2, _⟩
              · cases h1
              · cases h1; exact h2)
          clear hown1 hgrow
          go_wp2
          go_roundw
          case rel => exact ⟨j + 1, some ⟨g, 0, none⟩, cap, by omega, by go_num, rfl, hown2, HB2⟩
          case measure => simp [intOf]; omega
        · have HZ : ∀ i, j ≤ i → shrW x q 0 i = 0 := fun i hi => shrW_zero zx q 0 i (by omega)
          have hT := trim_any ao j cp _ wr (by omega) (num_of_owns' (shrW_words hx q 0) HZ hown)
          have hle := sizeL_le (shrW x q 0) j
          have hlt' : ¬ (q : Int) + j < k := by omega
          clear hc hx zx hown HZ
          go_wp2_with (go_at_call 18; refine hT.mono ?_; rintro e w1 ⟨g, cap, rfl, hN, hB1⟩)
          go_ret2
          exact ⟨g, _, cap, _, rfl, by omega, hN, hB.trans (hB1.mono hB.size)⟩

set_option maxHeartbeats 1000000 in
theorem right_p (b off n c q r : Nat) (s : Int) (x : Nat → Int) (w : World) (hn : n < 4000000000) (hq0 : q < 100000) (hr0 : r < 64) (hrp : 0 < r) (hq : s / 64 = q) (hr : s % 64 = r) (hs : 0 ≤ s) (h : Num w (some ⟨b, off, none⟩) n c x) :
    Calls Tryz.prog 34 #[.slice (some ⟨b, off, none⟩) n c, .int .i64 s] w fun e w' => ∃ g k cap z, e = .returned (.tuple #[.slice (some ⟨g, 0, none⟩) k cap, .bool z]) ∧ k ≤ n ∧ Num w' (some ⟨g, 0, none⟩) k cap (shrW x q r) ∧ Below w.heap.size w w' := by
  have hx := h.2.2.1
  have zx := h.2.2.2.1
  have hc : b < w.heap.size ∧ ∀ i, i < n → w.cell? ⟨b, off + i, none⟩ = some (.int .u64 (x i)) := by
    rcases h.2.2.2.2 with ⟨h, _⟩ | ⟨b', off', h, hbs, hc⟩
    · cases h
    · cases h; exact ⟨hbs, hc⟩
  obtain ⟨hbs, hc⟩ := hc
  have hcap := h.1
  have hs6 : s < 6400064 := by omega
  obtain ⟨i0, hi, hz0, hz1, hz2⟩ := info_parts Tryz.info23
  have HX : Hid (Num w (some ⟨b, off, none⟩) n c x) := h
  clear h
  go_enter Tryz.func34, Tryz.ntmps34
  go_wp2
  go_loop [6, 7, 13] (fun g u7 i => ∃ (k : Nat) (z : Bool), k ≤ n ∧ i = .int .i64 k ∧ g = .bool z) (fun _ _ i => n - (intOf i).toNat)
  case atStart => exact ⟨0, false, Nat.zero_le _, rfl, rfl⟩
  case round =>
    obtain ⟨k, z, hk, rfl, rfl⟩ := hrel
    by_cases h8 : k < n
    · have h8i : (k : Int) < n := by omega
      by_cases hkq : k < q
      · have bx := hx k
        have hcx := hc k h8
        clear hc hx zx hi hz0 hz1 hz2
        have hkq' : (k : Int) < q := by omega
        by_cases hz : x k = 0
        · have hz' : (x k != 0) = false := by simp [hz]
          have hne : ((k : Int) == q) = false := by simp; omega
          go_wp2
          go_round
          case rel => exact ⟨k + 1, z, by omega, by go_num, rfl⟩
          case measure => simp [intOf]; omega
        · have hz' : (x k != 0) = true := by simp [hz]
          go_wp2
          go_round
          case rel => exact ⟨k + 1, true, by omega, by go_num, rfl⟩
          case measure => simp [intOf]; omega
      · have hkq' : ¬ (k : Int) < q := by omega
        by_cases hke : k = q
        · subst hke
          have bx := hx k
          have hcx := hc k h8
          clear hc hx zx hi hz0 hz1 hz2
          go_wp2
          all_goals
            go_round
            case rel => first | exact ⟨k + 1, true, by omega, by go_num, rfl⟩ | exact ⟨k + 1, z, by omega, by go_num, rfl⟩
            case measure => simp [intOf]; omega
        · have hcx := hc k h8
          clear hc hx zx hi hz0 hz1 hz2
          have hne : ((k : Int) == q) = false := by simp; omega
          go_wp2
          go_round
          case rel => exact ⟨k + 1, z, by omega, by go_num, rfl⟩
          case measure => simp [intOf]; omega
    · obtain rfl : k = n := by omega
      go_wp2
      go_loopw [8, 9, 10] (fun v i u10 wr => ∃ (j : Nat) (ao : Option Addr) (cp : Nat), j ≤ k - q ∧ i = .int .i64 ((q : Int) + j) ∧ v = .slice ao j cp ∧ wr.ownsRow w.heap.size 23 1 (.slice ao j cp) j (wl (shrW x q r) j) ∧ Below w.heap.size w wr) (fun _ i _ _ => k + 1 - (intOf i).toNat)
      case atStart => exact ⟨0, none, 0, Nat.zero_le _, by go_num, rfl, World.ownsRow_nil _ _ _ _, Below.refl _ _⟩
      case round =>
        obtain ⟨j, ao, cp, hj, rfl, rfl, hown, hB⟩ := hrel
        by_cases hlt : q + j < k
        · have hlt' : (q : Int) + j < k := by omega
          have bx := hx (q + j)
          have b_y := hx (q + j + 1)
          have e1 : ((q : Int) + j).toNat = q + j := by omega
          have hcx : wr.cell? ⟨b, off + (q + j), none⟩ = some (.int .u64 (x (q + j))) := (hB.cell (p := ⟨b, off + (q + j), none⟩) hbs).trans (hc (q + j) hlt)
          have HW : Hid (Calls Tryz.prog 20 #[.slice (some ⟨b, off, none⟩) k c, .int .i64 ((q : Int) + j + 1)] wr fun e w' => e = .returned (.int .u64 (x (q + j + 1))) ∧ wr = w') := by
            have := word_any (some ⟨b, off, none⟩) k c (q + j + 1) x wr (HX.out.next hB)
            rw [show ((q + j + 1 : Nat) : Int) = (q : Int) + j + 1 by omega] at this
            exact this.mono fun _ _ h => ⟨h.1, h.2.symm⟩
          have hbw := hB.size
          have HO : Hid (wr.ownsRow w.heap.size 23 1 (.slice ao j cp) j (wl (shrW x q r) j)) := hown
          have HVAL : Hid (shrW x q r j = bits BinOp.or IntKind.u64 (x (q + j) / 2 ^ r) (IntKind.u64.wrap (x (q + j + 1) * 2 ^ (64 - r)))) := by show _ = _; unfold shrW; rw [if_neg (by omega)]; rfl
          have HOWN : (wr.alloc (.cells #[.int .u64 (bits BinOp.or IntKind.u64 (x (q + j) / 2 ^ r) (IntKind.u64.wrap (x (q + j + 1) * 2 ^ (64 - r))))] 23)).ownsRow w.heap.size 23 1 (.slice ao j cp) j (wl (shrW x q r) j) := hown.alloc _
          have HNEWS : ∀ (p : Nat) (u : Value), [Value.int .u64 (bits BinOp.or IntKind.u64 (x (q + j) / 2 ^ r) (IntKind.u64.wrap (x (q + j + 1) * 2 ^ (64 - r))))][p]? = some u → (wr.alloc (.cells #[.int .u64 (bits BinOp.or IntKind.u64 (x (q + j) / 2 ^ r) (IntKind.u64.wrap (x (q + j + 1) * 2 ^ (64 - r))))] 23)).cell? ((⟨wr.heap.size, 0, none⟩ : Addr).add p) = some u := by
            intro p u hp
            match p, hp with
            | 0, hp => simp at hp; subst hp; simp [Addr.add]
          have HONE : ∀ u ∈ [Value.int .u64 (bits BinOp.or IntKind.u64 (x (q + j) / 2 ^ r) (IntKind.u64.wrap (x (q + j + 1) * 2 ^ (64 - r))))], u.oneCell' = true := by
            intro u hu; simp at hu; subst hu; rfl
          clear hc hx zx hown
          go_wp2_with (first | (at_builtin; refine wpList_append_lies _ rfl (.tmp 77) (.tmp 79) 30 rfl w.heap.size 23 i0 (.int .u64 0) 1 8 Tryz.underlying30 hi hz0 hz1 hz2 rfl (by decide) (.slice ao j cp) j (wl (shrW x q r) j) rfl HOWN ⟨wr.heap.size, 0, none⟩ 1 1 [Value.int .u64 (bits BinOp.or IntKind.u64 (x (q + j) / 2 ^ r) (IntKind.u64.wrap (x (q + j + 1) * 2 ^ (64 - r))))] rfl rfl HNEWS HONE (by omega) (by unfold maxLen; omega) (by omega) (by simp; omega) (wr.heap.size + 1) (by simp) ?_; intro g cap w1 hown1 hgrow hat hlt1; clear HOWN HNEWS HONE) | (go_at_call 20; refine HW.out.mono ?_; rintro e w' ⟨rfl, rfl⟩))
          have hown2 : w1.ownsRow w.heap.size 23 1 (.slice (some ⟨g, 0, none⟩) (j + 1) cap) (j + 1) (wl (shrW x q r) (j + 1)) := by
            rw [← HVAL.out, wl_succ] at hown1; exact hown1
          have HB2 : Below w.heap.size w w1 := (hB.alloc hbw _).grown hgrow (by simp; omega) (by
            intro p hp
            rcases ao with _ | ⟨bb, oo, sp⟩
            · cases hp
            · cases hp
              obtain ⟨_, h1⟩ := HO.out
              rcases h1 with ⟨h1, _⟩ | ⟨g', _, _, h1, h2, _⟩
              · cases h1
              · cases h1; exact h2)
          clear hown1 hgrow
          go_wp2
          go_roundw
          case rel => exact ⟨j + 1, some ⟨g, 0, none⟩, cap, by omega, by go_num, rfl, hown2, HB2⟩
          case measure => simp [intOf]; omega
        · have HZ : ∀ i, j ≤ i → shrW x q r i = 0 := fun i hi => shrW_zero zx q r i (by omega)
          have hT := trim_any ao j cp _ wr (by omega) (num_of_owns' (shrW_words hx q r) HZ hown)
          have hle := sizeL_le (shrW x q r) j
          have hlt' : ¬ (q : Int) + j < k := by omega
          clear hc hx zx hown HZ
          go_wp2_with (go_at_call 18; refine hT.mono ?_; rintro e w1 ⟨g, cap, rfl, hN, hB1⟩)
          go_ret2
          exact ⟨g, _, cap, _, rfl, by omega, hN, hB.trans (hB1.mono hB.size)⟩
end
end Go.Proofs.YtpemdcnneabbfaaGreatDoor
