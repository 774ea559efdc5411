/-
  Texts that the proof leans on, joined: Fr, Ovm, Muls, Ove, Lvm, Lv4.
-/
import Derived.Test.YtpfnfaekgaipjaaGreatDoorJ8
import Derived.Test.YtpfnfaekgaipjaaGreatDoorJ6
import Derived.Test.YtpfnfaekgaipjaaGreatDoorJ4
set_option linter.unusedVariables false
set_option linter.unusedSimpArgs false
set_option maxRecDepth 20000
set_option linter.unusedSectionVars false
namespace Go.Proofs.YtpfnfaekgaipjaaGreatDoor
open Go.RowKit
attribute [local go_sem] setCell_drewN alloc_drewN

theorem owns_base {w : World} {base g k cap : Nat} {xs : List Value} (h : w.ownsRow base 22 1 (.slice (some ⟨g, 0, none⟩) k cap) k xs) : base ≤ g := by
  obtain ⟨hl, h⟩ := h
  rcases h with ⟨h, _⟩ | ⟨g', cap', cur, he, hb, _⟩
  · cases h
  · cases he; exact hb

set_option maxHeartbeats 1000000 in
theorem ftrim_some (b off n c : Nat) (x : Nat → Int) (w : World) (hn : n < 4294967296) (h : Num w (some ⟨b, off, none⟩) n c x) :
    Calls Tryz.prog 19 #[.slice (some ⟨b, off, none⟩) n c] w fun e w' => ∃ g cap, e = .returned (.slice (some ⟨g, 0, none⟩) (sizeL x n) cap) ∧ Num w' (some ⟨g, 0, none⟩) (sizeL x n) cap x ∧ Below w.heap.size w w' ∧ w.heap.size ≤ g := by
  obtain ⟨h1, h2, h3, h4, h5⟩ := h
  have hc : b < w.heap.size ∧ ∀ i, i < n → w.cell? ⟨b, off + i, none⟩ = some (.int .u64 (x i)) := by
    rcases h5 with ⟨h, _⟩ | ⟨b', off', h, hbs, hc⟩
    · cases h
    · cases h; exact ⟨hbs, hc⟩
  obtain ⟨hbs, hc⟩ := hc
  clear h5
  obtain ⟨i0, hi, hz0, hz1, hz2⟩ := info_parts Tryz.info22
  unfold maxLen at h2
  go_enter Tryz.func19, Tryz.ntmps19
  go_wp2
  go_loop [3] (fun t => ∃ k : Nat, k ≤ n ∧ sizeL x k = sizeL x n ∧ (∀ i, k ≤ i → x i = 0) ∧ t = .int .i64 k) (fun t => (intOf t).toNat)
  case atStart => exact ⟨n, Nat.le_refl _, rfl, h4, rfl⟩
  case round =>
    obtain ⟨k, hk, hs, hz, rfl⟩ := hrel
    clear h4
    by_cases h0 : k = 0
    · subst h0
      have HS : Hid (sizeL x n = 0) := hs.symm
      have HN : Hid (Num (w.alloc (.cells #[] 22)) (some ⟨w.heap.size, 0, none⟩) 0 0 x) := ⟨Nat.le_refl _, by unfold maxLen; omega, h3, hz, Or.inr ⟨w.heap.size, 0, rfl, by simp, fun i hi => by omega⟩⟩
      clear hs hz hc h3
      go_wp2
      go_ret
      refine ⟨w.heap.size, 0, ?_, ?_, (Below.refl _ _).alloc (Nat.le_refl _) _, Nat.le_refl _⟩
      · rw [HS.out]; rfl
      · rw [HS.out]; exact HN.out
    · obtain ⟨j, rfl⟩ : ∃ j, k = j + 1 := ⟨k - 1, by omega⟩
      have hcj := hc j (by omega)
      by_cases hzj : x j = 0
      · have HS : Hid (sizeL x j = sizeL x n) := by
          have : sizeL x (j + 1) = sizeL x j := by simp [sizeL, hzj]
          exact this.symm.trans hs
        have HZ : Hid (∀ i, j ≤ i → x i = 0) := fun i hji => by
          by_cases e : i = j
          · rw [e]; exact hzj
          · exact hz i (by omega)
        clear hs hz hc
        go_wp2
        go_round
        case rel => exact ⟨j, by omega, HS.out, HZ.out, by go_num⟩
        case measure => simp [intOf]
      · have HS : Hid (sizeL x n = j + 1) := by
          have : sizeL x (j + 1) = j + 1 := by simp [sizeL, hzj]
          exact hs.symm.trans this
        have HZ : Hid (∀ i, j + 1 ≤ i → x i = 0) := hz
        have HC : Hid (∀ i, i < n → w.cell? ⟨b, off + i, none⟩ = some (.int .u64 (x i))) := hc
        clear hs hz hc
        have HOWN : (w.alloc (.cells #[] 22)).ownsRow w.heap.size 22 1 (.slice (some ⟨w.heap.size, 0, none⟩) 0 0) 0 [] :=
          ⟨rfl, Or.inr ⟨w.heap.size, 0, #[], rfl, Nat.le_refl _, (MapKept.heap_alloc w _).1, Nat.le_refl _, by unfold maxLen; omega, rfl, rfl⟩⟩
        have HNEWS : ∀ (q : Nat) (u : Value), ((List.range (j + 1)).map fun i => Value.int .u64 (x i))[q]? = some u → (w.alloc (.cells #[] 22)).cell? ((⟨b, off, none⟩ : Addr).add q) = some u := by
          intro q u hq
          have hql : q < j + 1 := by
            rcases Nat.lt_or_ge q (j + 1) with h | h
            · exact h
            · rw [List.getElem?_eq_none (by simpa using h)] at hq; cases hq
          have e2 : u = .int .u64 (x q) := by simpa [hql] using hq.symm
          rw [e2]
          have ea : (⟨b, off, none⟩ : Addr).add q = ⟨b, off + q, none⟩ := by simp [Addr.add]
          rw [ea]
          exact (((Below.refl w.heap.size w).alloc (Nat.le_refl _) _).cell (p := ⟨b, off + q, none⟩) hbs).trans (HC.out q (by omega))
        have HONE : ∀ u ∈ ((List.range (j + 1)).map fun i => Value.int .u64 (x i)), u.oneCell' = true := by
          intro u hu
          obtain ⟨q, _, rfl⟩ := List.mem_map.1 hu
          rfl
        go_wp2_with (at_builtin; refine wpList_append_lies _ rfl (.tmp 18) (.tmp 21) 31 rfl w.heap.size 22 i0 (.int .u64 0) 1 8 Tryz.underlying31 hi hz0 hz1 hz2 rfl (by decide) (.slice (some ⟨w.heap.size, 0, none⟩) 0 0) 0 [] rfl HOWN ⟨b, off, none⟩ (j + 1) c ((List.range (j + 1)).map fun i => Value.int .u64 (x i)) rfl (by simp) HNEWS HONE (by omega) (by unfold maxLen; omega) (by omega) (by simp) (w.heap.size + 1) (by simp) ?_; intro g cap w1 hown hgrow hat hlt; clear HOWN HNEWS HONE)
        have hown' : w1.ownsRow w.heap.size 22 1 (.slice (some ⟨g, 0, none⟩) (j + 1) cap) (j + 1) ((List.range (j + 1)).map fun i => Value.int .u64 (x i)) := by
          have e0 : 0 + (j + 1) = j + 1 := by omega
          rw [e0] at hown
          simpa using hown
        have HN := num_of_owns (w := w) h3 HZ.out hown' hlt
        have HFG : w.heap.size ≤ g := owns_base hown'
        have HB : Below w.heap.size w w1 := ((Below.refl _ _).alloc (Nat.le_refl _) _).grown hgrow (by simp) (by intro k hk; cases hk; exact Nat.le_refl _)
        clear hown hown' hgrow
        go_wp2
        go_ret
        refine ⟨g, cap, ?_, ?_, HB, HFG⟩
        · rw [HS.out]; simp
        · rw [HS.out]; exact HN

set_option maxHeartbeats 400000 in
theorem ftrim_nil (x : Nat → Int) (w : World) (hx : ∀ i, x i = 0) :
    Calls Tryz.prog 19 #[.slice none 0 0] w fun e w' => ∃ g cap, e = .returned (.slice (some ⟨g, 0, none⟩) 0 cap) ∧ Num w' (some ⟨g, 0, none⟩) 0 cap x ∧ Below w.heap.size w w' ∧ w.heap.size ≤ g := by
  go_enter Tryz.func19, Tryz.ntmps19
  go_wp2
  go_loop [3] (fun t => t = .int .i64 0) (fun t => (intOf t).toNat)
  case atStart => rfl
  case round =>
    subst hrel
    go_wp2
    go_ret
    refine ⟨w.heap.size, 0, rfl, ?_, (Below.refl _ _).alloc (Nat.le_refl _) _, Nat.le_refl _⟩
    exact ⟨Nat.le_refl _, by unfold maxLen; omega, fun i => by rw [hx i]; decide, fun i _ => hx i, Or.inr ⟨w.heap.size, 0, rfl, by simp, fun i hi => by omega⟩⟩
theorem ftrim_any (a : Option Addr) (n c : Nat) (x : Nat → Int) (w : World) (hn : n < 4294967296) (h : Num w a n c x) :
    Calls Tryz.prog 19 #[.slice a n c] w fun e w' => ∃ g cap, e = .returned (.slice (some ⟨g, 0, none⟩) (sizeL x n) cap) ∧ Num w' (some ⟨g, 0, none⟩) (sizeL x n) cap x ∧ Below w.heap.size w w' ∧ w.heap.size ≤ g := by
  have h' := h
  obtain ⟨h1, h2, h3, h4, h5⟩ := h'
  rcases h5 with ⟨rfl, rfl⟩ | ⟨b, off, rfl, _, _⟩
  · obtain rfl : n = 0 := by omega
    exact ftrim_nil x w (fun i => h4 i (Nat.zero_le _))
  · exact ftrim_some b off n c x w hn h
set_option maxHeartbeats 1000000 in
theorem fleft_z (b off n c q : Nat) (s : Int) (x : Nat → Int) (w : World) (hn : n < 4000000000) (hq0 : q < 100000)  (hq : s / 64 = q) (hr : s % 64 = 0) (hs : 0 ≤ s) (h : Num w (some ⟨b, off, none⟩) n c x) :
    Calls Tryz.prog 9 #[.slice (some ⟨b, off, none⟩) n c, .int .i64 s] w fun e w' => ∃ g k cap, e = .returned (.slice (some ⟨g, 0, none⟩) k cap) ∧ k ≤ n + q + 1 ∧ Num w' (some ⟨g, 0, none⟩) k cap (finL x q 0) ∧ Below w.heap.size w w' ∧ w.heap.size ≤ g ∧ sizeL (finL x q 0) k = k := by
  have hx := h.2.2.1
  have zx := h.2.2.2.1
  have hc : b < w.heap.size ∧ ∀ i, i < n → w.cell? ⟨b, off + i, none⟩ = some (.int .u64 (x i)) := by
    rcases h.2.2.2.2 with ⟨h, _⟩ | ⟨b', off', h, hbs, hc⟩
    · cases h
    · cases h; exact ⟨hbs, hc⟩
  obtain ⟨hbs, hc⟩ := hc
  have hcap := h.1
  have hs6 : s < 6400064 := by omega
  obtain ⟨M, hM⟩ : ∃ M, n + q + 1 = M := ⟨_, rfl⟩
  have hMi : (n : Int) + q + 1 = (M : Int) := by omega
  have hmk := fun w => make_any ((n : Int) + q + 1) M hMi (by omega) w
  have hfin : ∀ (ss : Array Value) (m : Nat), ss.size = M → (∀ j h, ss[j]'h = Value.int .u64 (stL x q 0 n j)) → Num ((w.alloc (.cells ss 22)).drewN m) (some ⟨w.heap.size, 0, none⟩) M M (finL x q 0) := fun ss m h1 h2 => (num_of_block (by omega) (finL_words hx q 0) (fun i hi => finL_zero hx zx q 0 (by omega) i (by omega)) h1 (fun j hj => by rw [h2 j hj, stL_end hx zx q 0 j (by omega)])).drewN m
  have HM : Hid (n + q + 1 = M) := hM
  have HZ : Hid ((arrOf (fun _ => 0) M).size = M ∧ ∀ j h, (arrOf (fun _ => 0) M)[j]'h = Value.int .u64 0) := ⟨arrOf_size _ _, fun j h => arrOf_get _ _ _ _⟩
  have hcw : ∀ (ss : Array Value) i, i < n → (w.alloc (.cells ss 22)).cell? ⟨b, off + i, none⟩ = some (.int .u64 (x i)) := fun ss i hi => ((below1 w _).cell (p := ⟨b, off + i, none⟩) hbs).trans (hc i hi)
  clear h zx hMi hc
  generalize arrOf (fun _ => 0) M = zz at *
  go_enter Tryz.func9, Tryz.ntmps9
  go_wp2
  go_loopw [6, 16] (fun u6 i wr => ∃ (k m : Nat) (ss : Array Value), k ≤ n ∧ i = .int .i64 k ∧ ss.size = M ∧ (∀ j h, ss[j]'h = Value.int .u64 (stL x q 0 k j)) ∧ wr = (w.alloc (.cells ss 22)).drewN m) (fun _ i _ => n - (intOf i).toNat)
  case atStart => exact ⟨0, 0, zz, Nat.zero_le _, rfl, HZ.out.1, fun j h => by rw [HZ.out.2 j h]; unfold stL; (by_cases e : j < q + 0); (rw [if_pos e]; unfold finL; rw [if_neg (by omega)]); (rw [if_neg e]; split; (unfold lowp; rw [if_neg (by omega)]); rfl), rfl⟩
  case round =>
    obtain ⟨k, m, ss, hk, rfl, hsz, hss, rfl⟩ := hrel
    by_cases h8 : k < n
    · have h8i : (k : Int) < n := by omega
      have h8s : k + q < ss.size := by omega
      have h8t : (k : Int) + q < M := by omega
      have h8u : (k : Int) + q + 1 < M := by omega
      have bx := hx k
      have hcx := hcw ss k h8
      have hsk : ss[k + q]? = some (.int .u64 (lowp x q 0 (q + k))) := by rw [Array.getElem?_eq_getElem h8s, hss _ h8s]; unfold stL; rw [if_neg (by omega), if_pos (by omega), Nat.add_comm]
      have hgo : ∀ h, ss[k + q]'h = .int .u64 (lowp x q 0 (q + k)) := fun h => by rw [hss _ h]; unfold stL; rw [if_neg (by omega), if_pos (by omega), Nat.add_comm]
      have hlow := lowp_word hx q 0 (q + k)
      have e1 : ((k : Int) + q).toNat = k + q := by omega
      have e2 : ((k : Int) + q + 1).toNat = k + q + 1 := by omega
      have HF : Hid (finL x q 0 (q + k) = bits BinOp.or IntKind.u64 (lowp x q 0 (q + k)) (x k)) := by
        show _ = _; unfold finL; rw [if_pos (by omega), show q + k - q = k by omega]; simp [orW, wrap_id _ bx]
      have HR : Hid (∀ (i : Nat) (h : i < (ss.setIfInBounds (k + q) (.int .u64 (finL x q 0 (q + k)))).size), (ss.setIfInBounds (k + q) (.int .u64 (finL x q 0 (q + k))))[i]'h = Value.int .u64 (stL x q 0 (k + 1) i)) := stL_step0 hss
      clear hss hfin hmk hx
      generalize hlo : lowp x q 0 (q + k) = lo at *
      clear hcw
      go_wp2
      go_region
      go_wp2
      go_roundw
      case rel => refine ⟨k + 1, m + 1, ss.setIfInBounds (k + q) (.int .u64 (finL x q 0 (q + k))), by omega, by go_num, by simp [hsz], HR.out, ?_⟩; rw [HF.out]
      case measure => simp [intOf]; omega
    · obtain rfl : k = n := by omega
      have hT := ftrim_any _ _ _ _ _ (by omega) (hfin ss m hsz hss)
      have hle := sizeL_le (finL x q 0) M
      clear hss hfin hmk hx hcw
      go_wp2_with (go_at_call 19; refine hT.mono ?_; rintro e w1 ⟨g, cap, rfl, hN, hB, hfg⟩)
      go_ret
      exact ⟨g, _, cap, rfl, Nat.le_trans hle (Nat.le_of_eq HM.out.symm), hN, (below_drewN (below1 w _) m).trans (hB.mono (by simp)), by simp at hfg; omega, sizeL_sizeL _ _⟩

set_option maxHeartbeats 1000000 in
theorem fleft_p (b off n c q r : Nat) (s : Int) (x : Nat → Int) (w : World) (hn : n < 4000000000) (hq0 : q < 100000) (hr0 : r < 64) (hrp : 0 < r) (hq : s / 64 = q) (hr : s % 64 = r) (hs : 0 ≤ s) (h : Num w (some ⟨b, off, none⟩) n c x) :
    Calls Tryz.prog 9 #[.slice (some ⟨b, off, none⟩) n c, .int .i64 s] w fun e w' => ∃ g k cap, e = .returned (.slice (some ⟨g, 0, none⟩) k cap) ∧ k ≤ n + q + 1 ∧ Num w' (some ⟨g, 0, none⟩) k cap (finL x q r) ∧ Below w.heap.size w w' ∧ w.heap.size ≤ g ∧ sizeL (finL x q r) k = k := by
  have hx := h.2.2.1
  have zx := h.2.2.2.1
  have hc : b < w.heap.size ∧ ∀ i, i < n → w.cell? ⟨b, off + i, none⟩ = some (.int .u64 (x i)) := by
    rcases h.2.2.2.2 with ⟨h, _⟩ | ⟨b', off', h, hbs, hc⟩
    · cases h
    · cases h; exact ⟨hbs, hc⟩
  obtain ⟨hbs, hc⟩ := hc
  have hcap := h.1
  have hs6 : s < 6400064 := by omega
  obtain ⟨M, hM⟩ : ∃ M, n + q + 1 = M := ⟨_, rfl⟩
  have hMi : (n : Int) + q + 1 = (M : Int) := by omega
  have hmk := fun w => make_any ((n : Int) + q + 1) M hMi (by omega) w
  have hfin : ∀ (ss : Array Value) (m : Nat), ss.size = M → (∀ j h, ss[j]'h = Value.int .u64 (stL x q r n j)) → Num ((w.alloc (.cells ss 22)).drewN m) (some ⟨w.heap.size, 0, none⟩) M M (finL x q r) := fun ss m h1 h2 => (num_of_block (by omega) (finL_words hx q r) (fun i hi => finL_zero hx zx q r (by omega) i (by omega)) h1 (fun j hj => by rw [h2 j hj, stL_end hx zx q r j (by omega)])).drewN m
  have HM : Hid (n + q + 1 = M) := hM
  have HZ : Hid ((arrOf (fun _ => 0) M).size = M ∧ ∀ j h, (arrOf (fun _ => 0) M)[j]'h = Value.int .u64 0) := ⟨arrOf_size _ _, fun j h => arrOf_get _ _ _ _⟩
  have hcw : ∀ (ss : Array Value) i, i < n → (w.alloc (.cells ss 22)).cell? ⟨b, off + i, none⟩ = some (.int .u64 (x i)) := fun ss i hi => ((below1 w _).cell (p := ⟨b, off + i, none⟩) hbs).trans (hc i hi)
  clear h zx hMi hc
  generalize arrOf (fun _ => 0) M = zz at *
  go_enter Tryz.func9, Tryz.ntmps9
  go_wp2
  go_loopw [6, 16] (fun u6 i wr => ∃ (k m : Nat) (ss : Array Value), k ≤ n ∧ i = .int .i64 k ∧ ss.size = M ∧ (∀ j h, ss[j]'h = Value.int .u64 (stL x q r k j)) ∧ wr = (w.alloc (.cells ss 22)).drewN m) (fun _ i _ => n - (intOf i).toNat)
  case atStart => exact ⟨0, 0, zz, Nat.zero_le _, rfl, HZ.out.1, fun j h => by rw [HZ.out.2 j h]; unfold stL; (by_cases e : j < q + 0); (rw [if_pos e]; unfold finL; rw [if_neg (by omega)]); (rw [if_neg e]; split; (unfold lowp; rw [if_neg (by omega)]); rfl), rfl⟩
  case round =>
    obtain ⟨k, m, ss, hk, rfl, hsz, hss, rfl⟩ := hrel
    by_cases h8 : k < n
    · have h8i : (k : Int) < n := by omega
      have h8s : k + q < ss.size := by omega
      have h8t : (k : Int) + q < M := by omega
      have h8u : (k : Int) + q + 1 < M := by omega
      have bx := hx k
      have hcx := hcw ss k h8
      have hsk : ss[k + q]? = some (.int .u64 (lowp x q r (q + k))) := by rw [Array.getElem?_eq_getElem h8s, hss _ h8s]; unfold stL; rw [if_neg (by omega), if_pos (by omega), Nat.add_comm]
      have hgo : ∀ h, ss[k + q]'h = .int .u64 (lowp x q r (q + k)) := fun h => by rw [hss _ h]; unfold stL; rw [if_neg (by omega), if_pos (by omega), Nat.add_comm]
      have h8v : k + q + 1 < ss.size := by omega
      have hsl : ss[k + q + 1]? = some (.int .u64 0) := by rw [Array.getElem?_eq_getElem h8v, hss _ h8v]; unfold stL; rw [if_neg (by omega), if_neg (by omega)]
      have hlow := lowp_word hx q r (q + k)
      have e1 : ((k : Int) + q).toNat = k + q := by omega
      have e2 : ((k : Int) + q + 1).toNat = k + q + 1 := by omega
      have HF : Hid (finL x q r (q + k) = bits BinOp.or IntKind.u64 (lowp x q r (q + k)) (IntKind.u64.wrap (x k * 2 ^ r))) := by
        show _ = _; unfold finL; rw [if_pos (by omega), show q + k - q = k by omega]; rfl
      have HR : Hid (∀ (i : Nat) (h : i < ((ss.setIfInBounds (k + q) (.int .u64 (finL x q r (q + k)))).setIfInBounds (k + q + 1) (.int .u64 (x k / 2 ^ (64 - r)))).size), ((ss.setIfInBounds (k + q) (.int .u64 (finL x q r (q + k)))).setIfInBounds (k + q + 1) (.int .u64 (x k / 2 ^ (64 - r))))[i]'h = Value.int .u64 (stL x q r (k + 1) i)) := stL_step1 hrp hss
      clear hss hfin hmk hx
      generalize hlo : lowp x q r (q + k) = lo at *
      have hcx' := hcw (ss.setIfInBounds (k + q) (.int .u64 (bits BinOp.or IntKind.u64 lo (IntKind.u64.wrap (x k * 2 ^ r))))) k h8
      clear hcw
      go_wp2
      go_region
      go_wp2
      go_roundw
      case rel => refine ⟨k + 1, m + 1, (ss.setIfInBounds (k + q) (.int .u64 (finL x q r (q + k)))).setIfInBounds (k + q + 1) (.int .u64 (x k / 2 ^ (64 - r))), by omega, by go_num, by simp [hsz], HR.out, ?_⟩; rw [HF.out]
      case measure => simp [intOf]; omega
    · obtain rfl : k = n := by omega
      have hT := ftrim_any _ _ _ _ _ (by omega) (hfin ss m hsz hss)
      have hle := sizeL_le (finL x q r) M
      clear hss hfin hmk hx hcw
      go_wp2_with (go_at_call 19; refine hT.mono ?_; rintro e w1 ⟨g, cap, rfl, hN, hB, hfg⟩)
      go_ret
      exact ⟨g, _, cap, rfl, Nat.le_trans hle (Nat.le_of_eq HM.out.symm), hN, (below_drewN (below1 w _) m).trans (hB.mono (by simp)), by simp at hfg; omega, sizeL_sizeL _ _⟩
end Go.Proofs.YtpfnfaekgaipjaaGreatDoor

namespace Go.Proofs.YtpfnfaekgaipjaaGreatDoor
open Go.RowKit

theorem p64' (q r : Nat) : (18446744073709551616 : Int) ^ q * 2 ^ r = 2 ^ (64 * q + r) := by rw [Int.mul_comm]; exact p64 q r
/-- a number lies between two powers of two, by its length -/
theorem len_bd {x : Nat → Int} (hx : Words x) {n : Nat} (h : 0 < sizeL x n) : ∃ L : Nat, lenL x n = (L : Int) + 1 ∧ 2 ^ L ≤ val x n ∧ val x n < 2 ^ (L + 1) := by
  obtain ⟨j, hj⟩ : ∃ j, sizeL x n = j + 1 := ⟨sizeL x n - 1, by omega⟩
  have ht := sizeL_top (x := x) n h
  rw [hj] at ht
  have hxj := hx j
  have hne : x j ≠ 0 := ht
  obtain ⟨u, hu⟩ := Int.eq_ofNat_of_zero_le hxj.1
  have hb := bitLen_spec u (by omega) (by omega)
  have hv : val x n = val x j + x j * 18446744073709551616 ^ j := by rw [← val_bare n, hj]; rfl
  have hbd := val_bd hx j
  have hP := pw_pos j
  refine ⟨64 * j + (Lib.bitLen u - 1), ?_, ?_, ?_⟩
  · unfold lenL; rw [if_neg (by omega), hj]
    show 64 * ((j + 1 : Nat) : Int) - 64 + (Lib.bitLen (x j).toNat : Nat) = _
    rw [hu, Int.toNat_natCast]; omega
  · rw [hv, ← p64', hu]
    have h1 : (2 : Int) ^ (Lib.bitLen u - 1) ≤ u := by rw [← powCast]; omega
    have h2 : 18446744073709551616 ^ j * 2 ^ (Lib.bitLen u - 1) ≤ 18446744073709551616 ^ j * (u : Int) := Int.mul_le_mul_of_nonneg_left h1 (Int.le_of_lt hP)
    rw [Int.mul_comm _ (u : Int)] at h2
    omega
  · rw [hv, show 64 * j + (Lib.bitLen u - 1) + 1 = 64 * j + Lib.bitLen u by omega, ← p64', hu]
    have h1 : (u : Int) + 1 ≤ 2 ^ Lib.bitLen u := by rw [← powCast]; omega
    have h2 : 18446744073709551616 ^ j * ((u : Int) + 1) ≤ 18446744073709551616 ^ j * 2 ^ Lib.bitLen u := Int.mul_le_mul_of_nonneg_left h1 (Int.le_of_lt hP)
    rw [Int.mul_add, Int.mul_one, Int.mul_comm _ (u : Int)] at h2
    omega
end Go.Proofs.YtpfnfaekgaipjaaGreatDoor

namespace Go.Proofs.YtpfnfaekgaipjaaGreatDoor
open Go.RowKit

theorem times_val (b off n c b' off' n' c' : Nat) (x y : Nat → Int) (w : World) (hn : n < 1000000) (hn' : n' < 1000000) (h : Num w (some ⟨b, off, none⟩) n c x) (h' : Num w (some ⟨b', off', none⟩) n' c' y) :
    Calls Tryz.prog 10 #[.slice (some ⟨b, off, none⟩) n c, .slice (some ⟨b', off', none⟩) n' c'] w fun e w' => ∃ g k cap z, e = .returned (.slice (some ⟨g, 0, none⟩) k cap) ∧ k ≤ n + n' + 1 ∧ Num w' (some ⟨g, 0, none⟩) k cap z ∧ val z k = val x n * val y n' ∧ Below w.heap.size w w' :=
  (times_raw b off n c b' off' n' c' x y w hn hn' h h').mono fun e w' ⟨g, k, cap, z, e1, hk, hN, hv, hB⟩ => ⟨g, k, cap, z, e1, hk, hN, by rw [← hv, val_more hN.2.2.2.1 _ hk], hB⟩

end Go.Proofs.YtpfnfaekgaipjaaGreatDoor

namespace Go.Proofs.YtpfnfaekgaipjaaGreatDoor
open Go.RowKit

theorem fleft_val (b off n c : Nat) (d : Int) (x : Nat → Int) (w : World) (hn : n < 1000000) (hd : 0 ≤ d) (hd2 : d ≤ 6300000) (h : Num w (some ⟨b, off, none⟩) n c x) :
    Calls Tryz.prog 9 #[.slice (some ⟨b, off, none⟩) n c, .int .i64 d] w fun e w' => ∃ g k cap z, e = .returned (.slice (some ⟨g, 0, none⟩) k cap) ∧ k ≤ n + d.toNat / 64 + 1 ∧ Num w' (some ⟨g, 0, none⟩) k cap z ∧ val z k = val x n * 2 ^ d.toNat ∧ Below w.heap.size w w' ∧ w.heap.size ≤ g ∧ sizeL z k = k := by
  obtain ⟨q, hq⟩ : ∃ q : Nat, d / 64 = q := ⟨(d / 64).toNat, by omega⟩
  obtain ⟨r, hr⟩ : ∃ r : Nat, d % 64 = r := ⟨(d % 64).toNat, by omega⟩
  have hdn : d.toNat = 64 * q + r := by omega
  have hr64 : r < 64 := by omega
  have hq2 : q < 99000 := by omega
  have hx := h.2.2.1
  have hv := finL_val hx h.2.2.2.1 q hr64
  rw [hdn]
  by_cases hr0 : 0 < r
  · exact (fleft_p b off n c q r d x w (by omega) (by omega) hr64 hr0 hq hr hd h).mono fun e w' ⟨g, k, cap, e1, hk, hN, hB, hf, htr⟩ => ⟨g, k, cap, _, e1, by omega, hN, by rw [← hv, val_more hN.2.2.2.1 _ hk], hB, hf, htr⟩
  · obtain rfl : r = 0 := by omega
    exact (fleft_z b off n c q d x w (by omega) (by omega) hq hr hd h).mono fun e w' ⟨g, k, cap, e1, hk, hN, hB, hf, htr⟩ => ⟨g, k, cap, _, e1, by omega, hN, by rw [← hv, val_more hN.2.2.2.1 _ hk], hB, hf, htr⟩
end Go.Proofs.YtpfnfaekgaipjaaGreatDoor

namespace Go.Proofs.YtpfnfaekgaipjaaGreatDoor
open Go.RowKit

/-- words shifted down, by whole words and bits: their value -/
theorem shrW_val {y : Nat → Int} {n q r A : Nat} (hy : Words y) (hz : ∀ i, n ≤ i → y i = 0) (hr : r < 64) (m : Nat) (hm : n ≤ m) (hA : val y n = A) : val (shrW y q r) m = ((A / 2 ^ (64 * q + r) : Nat) : Int) := by
  have hw : Words (fun i => y (q + i)) := fun i => hy (q + i)
  have e1 : shrW y q r = shrW (fun i => y (q + i)) 0 r := by
    funext j; unfold shrW; simp only [Nat.zero_add, Nat.add_assoc]
  have h1 := dn_val hw hr m
  have h2 : y (q + m) = 0 := hz _ (by omega)
  simp only [h2, Int.zero_emod, Int.zero_mul, Int.add_zero, Nat.add_zero] at h1
  have h3 := val_split y q m
  have h4 : val (segW y q m) m = val (fun i => y (q + i)) m := val_congr m fun i hi => segW_lt y q m i hi
  rw [h4, val_more hz (q + m) (by omega), hA] at h3
  rw [e1]
  have hb1 := val_bd hy q
  have hb2 := val_bd (shrW_words hw (q := 0) (r := r)) m
  have hp : (0 : Int) < 2 ^ r := p2_pos r
  have hm1 := Int.emod_nonneg (y q) (Int.ne_of_gt hp)
  have hm2 := Int.emod_lt_of_pos (y q) hp
  generalize val (shrW (fun i => y (q + i)) 0 r) m = S at *
  generalize val (fun i => y (q + i)) m = Z at *
  have eZ : Z / 2 ^ r = S := by
    rw [← h1, Int.add_comm, Int.add_mul_ediv_right _ _ (Int.ne_of_gt hp), Int.ediv_eq_zero_of_lt hm1 hm2, Int.zero_add]
  have eA : (A : Int) / 18446744073709551616 ^ q = Z := by
    rw [h3, Int.add_mul_ediv_right _ _ (Int.ne_of_gt (pw_pos q)), Int.ediv_eq_zero_of_lt hb1.1 hb1.2, Int.zero_add]
  rw [← eZ, ← eA, Int.natCast_ediv, Int.ediv_ediv_of_nonneg (Int.le_of_lt (pw_pos q)), p64']
  simp
end Go.Proofs.YtpfnfaekgaipjaaGreatDoor

namespace Go.Proofs.YtpfnfaekgaipjaaGreatDoor
open Go.RowKit

/-- the words of a number -/
def W4 (A : Nat) (i : Nat) : Int := ((A / 2 ^ (64 * i) % 18446744073709551616 : Nat) : Int)
/-- a number of four words -/
abbrev A4 (A : Nat) : Value := .agg #[.int .u64 (W4 A 0), .int .u64 (W4 A 1), .int .u64 (W4 A 2), .int .u64 (W4 A 3)]
theorem W4_words (A : Nat) : Words (W4 A) := fun i => by
  unfold W4
  have := Nat.mod_lt (A / 2 ^ (64 * i)) (show 0 < 18446744073709551616 by decide)
  omega
theorem p64n (n : Nat) : (18446744073709551616 : Int) ^ n = ((2 ^ (64 * n) : Nat) : Int) := by
  rw [Nat.pow_mul]
  simp
theorem W4_val (A : Nat) : ∀ n, val (W4 A) n = ((A % 2 ^ (64 * n) : Nat) : Int)
  | 0 => by simp [val, Nat.mod_one]
  | n + 1 => by
    show val (W4 A) n + W4 A n * 18446744073709551616 ^ n = _
    have e : A % 2 ^ (64 * (n + 1)) = A % 2 ^ (64 * n) + 2 ^ (64 * n) * (A / 2 ^ (64 * n) % 18446744073709551616) := by
      rw [show 64 * (n + 1) = 64 * n + 64 by omega, Nat.pow_add]
      exact Nat.mod_mul
    rw [W4_val A n, p64n, e]
    unfold W4
    rw [Int.natCast_add, Int.natCast_mul, Int.mul_comm]
theorem W4_val4 {A : Nat} (h : A < 2 ^ 256) : val (W4 A) 4 = A := by
  rw [W4_val, Nat.mod_eq_of_lt h]
theorem arr_eq {x y : Nat → Int} (hx : Words x) (hy : Words y) (h : val x 4 = val y 4) : arrOf x 4 = arrOf y 4 :=
  arrOf_congr (val_inj hx hy 4 h)
theorem arr_A4 {x : Nat → Int} (hx : Words x) {A : Nat} (h : val x 4 = ((A % 2 ^ 256 : Nat) : Int)) : Value.agg (arrOf x 4) = A4 A := by
  have e : arrOf x 4 = arrOf (W4 A) 4 := arr_eq hx (W4_words A) (by rw [h, W4_val])
  rw [e]; rfl
theorem A4_mod (A : Nat) : A4 (A % 2 ^ 256) = A4 A := by
  have := arr_A4 (W4_words (A % 2 ^ 256)) (A := A) (by rw [W4_val, Nat.mod_mod])
  exact this
theorem A4_inj {A B : Nat} (hA : A < 2 ^ 256) (hB : B < 2 ^ 256) (h : ∀ i, i < 4 → W4 A i = W4 B i) : A = B := by
  have := val_congr (x := W4 A) (y := W4 B) 4 h
  rw [W4_val4 hA, W4_val4 hB] at this
  omega
/-- every pattern is a number's words -/
theorem words_A4 {x : Nat → Int} (hx : Words x) : ∃ A, A < 2 ^ 256 ∧ Value.agg (arrOf x 4) = A4 A ∧ val x 4 = A := by
  have hb := val_bd hx 4
  have e : (18446744073709551616 : Int) ^ 4 = ((2 ^ 256 : Nat) : Int) := by decide
  rw [e] at hb
  obtain ⟨A, hA⟩ := Int.eq_ofNat_of_zero_le hb.1
  have hlt : A < 2 ^ 256 := by rw [hA] at hb; exact Int.ofNat_lt.1 hb.2
  exact ⟨A, hlt, arr_A4 hx (by rw [Nat.mod_eq_of_lt hlt]; exact hA), hA⟩

theorem add4 (A B : Nat) (w : World) (hA : A < 2 ^ 256) (hB : B < 2 ^ 256) :
    Calls Tryz.prog 89 #[A4 A, A4 B] w fun e w' => e = .returned (.tuple #[A4 (A + B), .int .u64 (((A + B) / 2 ^ 256 : Nat) : Int)]) ∧ Below w.heap.size w w' := by
  refine (limAdd4 (W4 A) (W4 B) w (W4_words A) (W4_words B)).mono ?_
  rintro e w' ⟨rfl, hb⟩
  refine ⟨?_, hb⟩
  have hs := sum_val (x := W4 A) (y := W4 B) 4
  have hc := carryW_01 (W4_words A) (W4_words B) 4
  have hv := val_bd (sumW_words (W4 A) (W4 B)) 4
  rw [W4_val4 hA, W4_val4 hB] at hs
  have e4 : (18446744073709551616 : Int) ^ 4 = 115792089237316195423570985008687907853269984665640564039457584007913129639936 := by decide
  have e4n : (2 : Nat) ^ 256 = 115792089237316195423570985008687907853269984665640564039457584007913129639936 := by decide
  rw [e4] at hs hv
  rw [e4n] at hA hB ⊢
  rw [arr_A4 (sumW_words _ _) (A := A + B) (by rw [e4n]; omega)]
  have : carryW (W4 A) (W4 B) 4 = (((A + B) / 115792089237316195423570985008687907853269984665640564039457584007913129639936 : Nat) : Int) := by omega
  rw [this]
theorem sub4 (A B : Nat) (w : World) (hA : A < 2 ^ 256) (hB : B < 2 ^ 256) :
    Calls Tryz.prog 137 #[A4 A, A4 B] w fun e w' => e = .returned (.tuple #[A4 (A + 2 ^ 256 - B), .int .u64 (if A < B then 1 else 0)]) ∧ Below w.heap.size w w' := by
  refine (limSub4 (W4 A) (W4 B) w (W4_words A) (W4_words B)).mono ?_
  rintro e w' ⟨rfl, hb⟩
  refine ⟨?_, hb⟩
  have hs := dif_val (x := W4 A) (y := W4 B) (W4_words A) (W4_words B) 4
  have hc := borW_01 (W4 A) (W4 B) 4
  have hv := val_bd (difW_words (W4 A) (W4 B)) 4
  rw [W4_val4 hA, W4_val4 hB] at hs
  have e4 : (18446744073709551616 : Int) ^ 4 = 115792089237316195423570985008687907853269984665640564039457584007913129639936 := by decide
  have e4n : (2 : Nat) ^ 256 = 115792089237316195423570985008687907853269984665640564039457584007913129639936 := by decide
  rw [e4] at hs hv
  rw [e4n] at hA hB ⊢
  rw [arr_A4 (difW_words _ _) (A := A + 115792089237316195423570985008687907853269984665640564039457584007913129639936 - B) (by rw [e4n]; omega)]
  have : borW (W4 A) (W4 B) 4 = if A < B then 1 else 0 := by split <;> omega
  rw [this]
theorem A4_sub {A B : Nat} (h : B ≤ A) : A4 (A + 2 ^ 256 - B) = A4 (A - B) := by
  rw [← A4_mod (A - B), ← A4_mod (A + 2 ^ 256 - B), show A + 2 ^ 256 - B = A - B + 2 ^ 256 by omega, Nat.add_mod_right]

theorem shl4 (A n : Nat) (w : World) (hA : A < 2 ^ 256) (hn : n ≤ 100000) :
    Calls Tryz.prog 116 #[A4 A, .int .i64 n] w fun e w' => e = .returned (A4 (A * 2 ^ n)) ∧ Below w.heap.size w w' := by
  refine (shlA4 (W4 A) n w (W4_words A) (by omega)).mono ?_
  rintro e w' ⟨rfl, hb⟩
  refine ⟨?_, hb⟩
  congr 1
  by_cases h1 : n = 0
  · subst h1
    have e : shlA (W4 A) ((0 : Nat) : Int) = W4 A := by funext j; unfold shlA; rw [if_pos (by omega)]
    rw [e, Nat.pow_zero, Nat.mul_one]; rfl
  refine arr_A4 (shlA_words (W4_words A) _) ?_
  have hlow := shlL_fin (W4_words A) (N := 4) (((n : Int) / 64).toNat) (((n : Int) % 64).toNat)
  have es : shlA (W4 A) (n : Int) = shlL (W4 A) ((n : Int) / 64).toNat ((n : Int) % 64).toNat := by funext j; unfold shlA; rw [if_neg (by omega)]
  rw [es]
  obtain ⟨q, hq⟩ : ∃ q : Nat, ((n : Int) / 64).toNat = q := ⟨_, rfl⟩
  obtain ⟨r, hr⟩ : ∃ r : Nat, ((n : Int) % 64).toNat = r := ⟨_, rfl⟩
  rw [hq, hr] at hlow ⊢
  have hn : n = 64 * q + r := by omega
  have hr6 : r < 64 := by omega
  have h4 : val (shlL (W4 A) q r) 4 = val (finL (lowW (W4 A) 4) q r) 4 := by
    refine val_congr 4 fun i hi => ?_
    have := congrFun hlow i
    rw [lowW_lt hi, lowW_lt hi] at this
    exact this
  have hlw : Words (lowW (W4 A) 4) := lowW_words (W4_words A) 4
  have hz : ∀ i, 4 ≤ i → lowW (W4 A) 4 i = 0 := fun i hi => lowW_ge hi
  have hF := finL_val hlw hz q hr6
  have hvl : val (lowW (W4 A) 4) 4 = A := by
    rw [val_congr (x := lowW (W4 A) 4) (y := W4 A) 4 (fun i hi => lowW_lt hi), W4_val4 hA]
  rw [hvl, ← hn] at hF
  have hsp := val_split (finL (lowW (W4 A) 4) q r) 4 (q + 1)
  rw [show 4 + (q + 1) = 4 + q + 1 by omega, hF] at hsp
  have hbd := val_bd (finL_words hlw (q := q) (r := r)) 4
  have e4 : (18446744073709551616 : Int) ^ 4 = ((2 ^ 256 : Nat) : Int) := by decide
  rw [e4] at hbd hsp
  rw [h4]
  have : (A : Int) * 2 ^ n = ((A * 2 ^ n : Nat) : Int) := by simp
  rw [this] at hsp
  have h5 := congrArg (· % ((2 ^ 256 : Nat) : Int)) hsp
  simp only [Int.add_mul_emod_self_right, Int.emod_eq_of_lt hbd.1 hbd.2] at h5
  rw [← h5]
  rfl
theorem len4_le {A k : Nat} (hA : A < 2 ^ 256) : lenL (W4 A) 4 ≤ (k : Int) ↔ A < 2 ^ k := by
  have hv := W4_val4 hA
  by_cases h0 : 0 < sizeL (W4 A) 4
  · obtain ⟨L, h1, h2, h3⟩ := len_bd (W4_words A) h0
    rw [hv] at h2 h3
    rw [h1]
    have h2' : 2 ^ L ≤ A := by have : ((2 ^ L : Nat) : Int) ≤ A := by simpa using h2
                               omega
    have h3' : A < 2 ^ (L + 1) := by have : (A : Int) < ((2 ^ (L + 1) : Nat) : Int) := by simpa using h3
                                     omega
    constructor
    · intro h
      exact Nat.lt_of_lt_of_le h3' (Nat.pow_le_pow_right (by decide) (by omega))
    · intro h
      have : 2 ^ L < 2 ^ k := Nat.lt_of_le_of_lt h2' h
      have := (Nat.pow_lt_pow_iff_right (a := 2) (by decide)).1 this
      omega
  · have hz : sizeL (W4 A) 4 = 0 := by omega
    have hl : lenL (W4 A) 4 = 0 := by unfold lenL; rw [if_pos hz]
    have hA0 : (A : Int) = 0 := by
      rw [← hv, ← val_bare 4, hz]; rfl
    rw [hl]
    have : A = 0 := by omega
    subst this
    exact ⟨fun _ => Nat.two_pow_pos k, fun _ => by omega⟩
theorem len4_zero {A : Nat} (hA : A < 2 ^ 256) : lenL (W4 A) 4 = 0 ↔ A = 0 := by
  have h := len4_le (k := 0) hA
  have h2 : 0 ≤ lenL (W4 A) 4 := by
    by_cases h0 : 0 < sizeL (W4 A) 4
    · obtain ⟨L, h1, _⟩ := len_bd (W4_words A) h0
      omega
    · unfold lenL; rw [if_pos (by omega)]; exact Int.le_refl _
  constructor
  · intro h3; have := h.1 (by omega); omega
  · intro h3; have := h.2 (by omega); omega
theorem lenL_low (A : Nat) : lenL (lowW (W4 A) 4) 4 = lenL (W4 A) 4 := by
  unfold lenL
  rw [sizeL_congr (x := lowW (W4 A) 4) (y := W4 A) 4 (fun i hi => lowW_lt hi)]
  by_cases h : sizeL (W4 A) 4 = 0
  · rw [if_pos h, if_pos h]
  · have := sizeL_le (W4 A) 4
    rw [if_neg h, if_neg h, lowW_lt (by omega)]
theorem len4' (A : Nat) (w : World) : Calls Tryz.prog 86 #[A4 A] w fun e w' => e = .returned (.int .i64 (lenL (W4 A) 4)) ∧ Below w.heap.size w w' := len4 (W4 A) w (W4_words A)
set_option maxHeartbeats 400000 in
theorem of4 (u : Nat) (w : World) (hu : u < 18446744073709551616) :
    Calls Tryz.prog 117 #[.int .u64 u] w fun e w' => e = .returned (A4 u) ∧ Below w.heap.size w w' := by
  have e0 : W4 u 0 = u := by unfold W4; rw [Nat.mul_zero, Nat.pow_zero, Nat.div_one, Nat.mod_eq_of_lt hu]
  have e1 : ∀ i, 0 < i → W4 u i = 0 := fun i hi => by
    unfold W4
    have : u < 2 ^ (64 * i) := Nat.lt_of_lt_of_le hu (by rw [show (18446744073709551616 : Nat) = 2 ^ 64 by decide]; exact Nat.pow_le_pow_right (by decide) (by omega))
    rw [Nat.div_eq_of_lt this]; rfl
  unfold A4
  rw [e0, e1 1 (by decide), e1 2 (by decide), e1 3 (by decide)]
  go_enter Tryz.func117, Tryz.ntmps117
  go_wp2
  exact bodyPost_ret (v := .agg #[.int .u64 u, .int .u64 0, .int .u64 0, .int .u64 0]) (by simp [results, Tryz.results117, go_sem]) rfl ⟨rfl, ((Below.refl _ _).alloc (Nat.le_refl _) _).alloc (by simp) _⟩
end Go.Proofs.YtpfnfaekgaipjaaGreatDoor
