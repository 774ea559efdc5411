/-
  Texts that the proof leans on, joined: Fr, Ovm, Muls, Ove, Lvm, Nw, Ka, Gm.
-/
import Derived.Test.YtplocajjfoiklaaGreatDoorJ8
import Derived.Test.YtplocajjfoiklaaGreatDoorJ6
import Derived.Test.YtplocajjfoiklaaGreatDoorJ4
import Derived.Lib.TrimByte
import Derived.Lib.ItoaLen
import Derived.Test.YtplocajjfoiklaaGreatDoorProg
import Derived.WalkKit
import Derived.RowKit
set_option linter.unusedVariables false
set_option linter.unusedSimpArgs false
set_option maxRecDepth 20000
set_option linter.unusedSectionVars false
namespace Go.Proofs.YtplocajjfoiklaaGreatDoor
open Go.RowKit
attribute [local go_sem] setCell_drewN alloc_drewN

theorem owns_base {w : World} {base g k cap : Nat} {xs : List Value} (h : w.ownsRow base 22 1 (.slice (some ⟨g, 0, none⟩) k cap) k xs) : base ≤ g := by
  obtain ⟨hl, h⟩ := h
  rcases h with ⟨h, _⟩ | ⟨g', cap', cur, he, hb, _⟩
  · cases h
  · cases he; exact hb

set_option maxHeartbeats 1000000 in
theorem ftrim_some (b off n c : Nat) (x : Nat → Int) (w : World) (hn : n < 4294967296) (h : Num w (some ⟨b, off, none⟩) n c x) :
    Calls Tryz.prog 67 #[.slice (some ⟨b, off, none⟩) n c] w fun e w' => ∃ g cap, e = .returned (.slice (some ⟨g, 0, none⟩) (sizeL x n) cap) ∧ Num w' (some ⟨g, 0, none⟩) (sizeL x n) cap x ∧ Below w.heap.size w w' ∧ w.heap.size ≤ g := by
  obtain ⟨h1, h2, h3, h4, h5⟩ := h
  have hc : b < w.heap.size ∧ ∀ i, i < n → w.cell? ⟨b, off + i, none⟩ = some (.int .u64 (x i)) := by
    rcases h5 with ⟨h, _⟩ | ⟨b', off', h, hbs, hc⟩
    · cases h
    · cases h; exact ⟨hbs, hc⟩
  obtain ⟨hbs, hc⟩ := hc
  clear h5
  obtain ⟨i0, hi, hz0, hz1, hz2⟩ := info_parts Tryz.info22
  unfold maxLen at h2
  go_enter Tryz.func67, Tryz.ntmps67
  go_wp2
  go_loop [3] (fun t => ∃ k : Nat, k ≤ n ∧ sizeL x k = sizeL x n ∧ (∀ i, k ≤ i → x i = 0) ∧ t = .int .i64 k) (fun t => (intOf t).toNat)
  case atStart => exact ⟨n, Nat.le_refl _, rfl, h4, rfl⟩
  case round =>
    obtain ⟨k, hk, hs, hz, rfl⟩ := hrel
    clear h4
    by_cases h0 : k = 0
    · subst h0
      have HS : Hid (sizeL x n = 0) := hs.symm
      have HN : Hid (Num (w.alloc (.cells #[] 22)) (some ⟨w.heap.size, 0, none⟩) 0 0 x) := ⟨Nat.le_refl _, by unfold maxLen; omega, h3, hz, Or.inr ⟨w.heap.size, 0, rfl, by simp, fun i hi => by omega⟩⟩
      clear hs hz hc h3
      go_wp2
      go_ret
      refine ⟨w.heap.size, 0, ?_, ?_, (Below.refl _ _).alloc (Nat.le_refl _) _, Nat.le_refl _⟩
      · rw [HS.out]; rfl
      · rw [HS.out]; exact HN.out
    · obtain ⟨j, rfl⟩ : ∃ j, k = j + 1 := ⟨k - 1, by omega⟩
      have hcj := hc j (by omega)
      by_cases hzj : x j = 0
      · have HS : Hid (sizeL x j = sizeL x n) := by
          have : sizeL x (j + 1) = sizeL x j := by simp [sizeL, hzj]
          exact this.symm.trans hs
        have HZ : Hid (∀ i, j ≤ i → x i = 0) := fun i hji => by
          by_cases e : i = j
          · rw [e]; exact hzj
          · exact hz i (by omega)
        clear hs hz hc
        go_wp2
        go_round
        case rel => exact ⟨j, by omega, HS.out, HZ.out, by go_num⟩
        case measure => simp [intOf]
      · have HS : Hid (sizeL x n = j + 1) := by
          have : sizeL x (j + 1) = j + 1 := by simp [sizeL, hzj]
          exact hs.symm.trans this
        have HZ : Hid (∀ i, j + 1 ≤ i → x i = 0) := hz
        have HC : Hid (∀ i, i < n → w.cell? ⟨b, off + i, none⟩ = some (.int .u64 (x i))) := hc
        clear hs hz hc
        have HOWN : (w.alloc (.cells #[] 22)).ownsRow w.heap.size 22 1 (.slice (some ⟨w.heap.size, 0, none⟩) 0 0) 0 [] :=
          ⟨rfl, Or.inr ⟨w.heap.size, 0, #[], rfl, Nat.le_refl _, (MapKept.heap_alloc w _).1, Nat.le_refl _, by unfold maxLen; omega, rfl, rfl⟩⟩
        have HNEWS : ∀ (q : Nat) (u : Value), ((List.range (j + 1)).map fun i => Value.int .u64 (x i))[q]? = some u → (w.alloc (.cells #[] 22)).cell? ((⟨b, off, none⟩ : Addr).add q) = some u := by
          intro q u hq
          have hql : q < j + 1 := by
            rcases Nat.lt_or_ge q (j + 1) with h | h
            · exact h
            · rw [List.getElem?_eq_none (by simpa using h)] at hq; cases hq
          have e2 : u = .int .u64 (x q) := by simpa [hql] using hq.symm
          rw [e2]
          have ea : (⟨b, off, none⟩ : Addr).add q = ⟨b, off + q, none⟩ := by simp [Addr.add]
          rw [ea]
          exact (((Below.refl w.heap.size w).alloc (Nat.le_refl _) _).cell (p := ⟨b, off + q, none⟩) hbs).trans (HC.out q (by omega))
        have HONE : ∀ u ∈ ((List.range (j + 1)).map fun i => Value.int .u64 (x i)), u.oneCell' = true := by
          intro u hu
          obtain ⟨q, _, rfl⟩ := List.mem_map.1 hu
          rfl
        go_wp2_with (at_builtin; refine wpList_append_lies _ rfl (.tmp 18) (.tmp 21) 49 rfl w.heap.size 22 i0 (.int .u64 0) 1 8 Tryz.underlying49 hi hz0 hz1 hz2 rfl (by decide) (.slice (some ⟨w.heap.size, 0, none⟩) 0 0) 0 [] rfl HOWN ⟨b, off, none⟩ (j + 1) c ((List.range (j + 1)).map fun i => Value.int .u64 (x i)) rfl (by simp) HNEWS HONE (by omega) (by unfold maxLen; omega) (by omega) (by simp) (w.heap.size + 1) (by simp) ?_; intro g cap w1 hown hgrow hat hlt; clear HOWN HNEWS HONE)
        have hown' : w1.ownsRow w.heap.size 22 1 (.slice (some ⟨g, 0, none⟩) (j + 1) cap) (j + 1) ((List.range (j + 1)).map fun i => Value.int .u64 (x i)) := by
          have e0 : 0 + (j + 1) = j + 1 := by omega
          rw [e0] at hown
          simpa using hown
        have HN := num_of_owns (w := w) h3 HZ.out hown' hlt
        have HFG : w.heap.size ≤ g := owns_base hown'
        have HB : Below w.heap.size w w1 := ((Below.refl _ _).alloc (Nat.le_refl _) _).grown hgrow (by simp) (by intro k hk; cases hk; exact Nat.le_refl _)
        clear hown hown' hgrow
        go_wp2
        go_ret
        refine ⟨g, cap, ?_, ?_, HB, HFG⟩
        · rw [HS.out]; simp
        · rw [HS.out]; exact HN

set_option maxHeartbeats 400000 in
theorem ftrim_nil (x : Nat → Int) (w : World) (hx : ∀ i, x i = 0) :
    Calls Tryz.prog 67 #[.slice none 0 0] w fun e w' => ∃ g cap, e = .returned (.slice (some ⟨g, 0, none⟩) 0 cap) ∧ Num w' (some ⟨g, 0, none⟩) 0 cap x ∧ Below w.heap.size w w' ∧ w.heap.size ≤ g := by
  go_enter Tryz.func67, Tryz.ntmps67
  go_wp2
  go_loop [3] (fun t => t = .int .i64 0) (fun t => (intOf t).toNat)
  case atStart => rfl
  case round =>
    subst hrel
    go_wp2
    go_ret
    refine ⟨w.heap.size, 0, rfl, ?_, (Below.refl _ _).alloc (Nat.le_refl _) _, Nat.le_refl _⟩
    exact ⟨Nat.le_refl _, by unfold maxLen; omega, fun i => by rw [hx i]; decide, fun i _ => hx i, Or.inr ⟨w.heap.size, 0, rfl, by simp, fun i hi => by omega⟩⟩
theorem ftrim_any (a : Option Addr) (n c : Nat) (x : Nat → Int) (w : World) (hn : n < 4294967296) (h : Num w a n c x) :
    Calls Tryz.prog 67 #[.slice a n c] w fun e w' => ∃ g cap, e = .returned (.slice (some ⟨g, 0, none⟩) (sizeL x n) cap) ∧ Num w' (some ⟨g, 0, none⟩) (sizeL x n) cap x ∧ Below w.heap.size w w' ∧ w.heap.size ≤ g := by
  have h' := h
  obtain ⟨h1, h2, h3, h4, h5⟩ := h'
  rcases h5 with ⟨rfl, rfl⟩ | ⟨b, off, rfl, _, _⟩
  · obtain rfl : n = 0 := by omega
    exact ftrim_nil x w (fun i => h4 i (Nat.zero_le _))
  · exact ftrim_some b off n c x w hn h
set_option maxHeartbeats 1000000 in
theorem fleft_z (b off n c q : Nat) (s : Int) (x : Nat → Int) (w : World) (hn : n < 4000000000) (hq0 : q < 100000)  (hq : s / 64 = q) (hr : s % 64 = 0) (hs : 0 ≤ s) (h : Num w (some ⟨b, off, none⟩) n c x) :
    Calls Tryz.prog 28 #[.slice (some ⟨b, off, none⟩) n c, .int .i64 s] w fun e w' => ∃ g k cap, e = .returned (.slice (some ⟨g, 0, none⟩) k cap) ∧ k ≤ n + q + 1 ∧ Num w' (some ⟨g, 0, none⟩) k cap (finL x q 0) ∧ Below w.heap.size w w' ∧ w.heap.size ≤ g ∧ sizeL (finL x q 0) k = k := by
  have hx := h.2.2.1
  have zx := h.2.2.2.1
  have hc : b < w.heap.size ∧ ∀ i, i < n → w.cell? ⟨b, off + i, none⟩ = some (.int .u64 (x i)) := by
    rcases h.2.2.2.2 with ⟨h, _⟩ | ⟨b', off', h, hbs, hc⟩
    · cases h
    · cases h; exact ⟨hbs, hc⟩
  obtain ⟨hbs, hc⟩ := hc
  have hcap := h.1
  have hs6 : s < 6400064 := by omega
  obtain ⟨M, hM⟩ : ∃ M, n + q + 1 = M := ⟨_, rfl⟩
  have hMi : (n : Int) + q + 1 = (M : Int) := by omega
  have hmk := fun w => make_any ((n : Int) + q + 1) M hMi (by omega) w
  have hfin : ∀ (ss : Array Value) (m : Nat), ss.size = M → (∀ j h, ss[j]'h = Value.int .u64 (stL x q 0 n j)) → Num ((w.alloc (.cells ss 22)).drewN m) (some ⟨w.heap.size, 0, none⟩) M M (finL x q 0) := fun ss m h1 h2 => (num_of_block (by omega) (finL_words hx q 0) (fun i hi => finL_zero hx zx q 0 (by omega) i (by omega)) h1 (fun j hj => by rw [h2 j hj, stL_end hx zx q 0 j (by omega)])).drewN m
  have HM : Hid (n + q + 1 = M) := hM
  have HZ : Hid ((arrOf (fun _ => 0) M).size = M ∧ ∀ j h, (arrOf (fun _ => 0) M)[j]'h = Value.int .u64 0) := ⟨arrOf_size _ _, fun j h => arrOf_get _ _ _ _⟩
  have hcw : ∀ (ss : Array Value) i, i < n → (w.alloc (.cells ss 22)).cell? ⟨b, off + i, none⟩ = some (.int .u64 (x i)) := fun ss i hi => ((below1 w _).cell (p := ⟨b, off + i, none⟩) hbs).trans (hc i hi)
  clear h zx hMi hc
  generalize arrOf (fun _ => 0) M = zz at *
  go_enter Tryz.func28, Tryz.ntmps28
  go_wp2
  go_loopw [6, 16] (fun u6 i wr => ∃ (k m : Nat) (ss : Array Value), k ≤ n ∧ i = .int .i64 k ∧ ss.size = M ∧ (∀ j h, ss[j]'h = Value.int .u64 (stL x q 0 k j)) ∧ wr = (w.alloc (.cells ss 22)).drewN m) (fun _ i _ => n - (intOf i).toNat)
  case atStart => exact ⟨0, 0, zz, Nat.zero_le _, rfl, HZ.out.1, fun j h => by rw [HZ.out.2 j h]; unfold stL; (by_cases e : j < q + 0); (rw [if_pos e]; unfold finL; rw [if_neg (by omega)]); (rw [if_neg e]; split; (unfold lowp; rw [if_neg (by omega)]); rfl), rfl⟩
  case round =>
    obtain ⟨k, m, ss, hk, rfl, hsz, hss, rfl⟩ := hrel
    by_cases h8 : k < n
    · have h8i : (k : Int) < n := by omega
      have h8s : k + q < ss.size := by omega
      have h8t : (k : Int) + q < M := by omega
      have h8u : (k : Int) + q + 1 < M := by omega
      have bx := hx k
      have hcx := hcw ss k h8
      have hsk : ss[k + q]? = some (.int .u64 (lowp x q 0 (q + k))) := by rw [Array.getElem?_eq_getElem h8s, hss _ h8s]; unfold stL; rw [if_neg (by omega), if_pos (by omega), Nat.add_comm]
      have hgo : ∀ h, ss[k + q]'h = .int .u64 (lowp x q 0 (q + k)) := fun h => by rw [hss _ h]; unfold stL; rw [if_neg (by omega), if_pos (by omega), Nat.add_comm]
      have hlow := lowp_word hx q 0 (q + k)
      have e1 : ((k : Int) + q).toNat = k + q := by omega
      have e2 : ((k : Int) + q + 1).toNat = k + q + 1 := by omega
      have HF : Hid (finL x q 0 (q + k) = bits BinOp.or IntKind.u64 (lowp x q 0 (q + k)) (x k)) := by
        show _ = _; unfold finL; rw [if_pos (by omega), show q + k - q = k by omega]; simp [orW, wrap_id _ bx]
      have HR : Hid (∀ (i : Nat) (h : i < (ss.setIfInBounds (k + q) (.int .u64 (finL x q 0 (q + k)))).size), (ss.setIfInBounds (k + q) (.int .u64 (finL x q 0 (q + k))))[i]'h = Value.int .u64 (stL x q 0 (k + 1) i)) := stL_step0 hss
      clear hss hfin hmk hx
      generalize hlo : lowp x q 0 (q + k) = lo at *
      clear hcw
      go_wp2
      go_region
      go_wp2
      go_roundw
      case rel => refine ⟨k + 1, m + 1, ss.setIfInBounds (k + q) (.int .u64 (finL x q 0 (q + k))), by omega, by go_num, by simp [hsz], HR.out, ?_⟩; rw [HF.out]
      case measure => simp [intOf]; omega
    · obtain rfl : k = n := by omega
      have hT := ftrim_any _ _ _ _ _ (by omega) (hfin ss m hsz hss)
      have hle := sizeL_le (finL x q 0) M
      clear hss hfin hmk hx hcw
      go_wp2_with (go_at_call 67; refine hT.mono ?_; rintro e w1 ⟨g, cap, rfl, hN, hB, hfg⟩)
      go_ret
      exact ⟨g, _, cap, rfl, Nat.le_trans hle (Nat.le_of_eq HM.out.symm), hN, (below_drewN (below1 w _) m).trans (hB.mono (by simp)), by simp at hfg; omega, sizeL_sizeL _ _⟩

set_option maxHeartbeats 1000000 in
theorem fleft_p (b off n c q r : Nat) (s : Int) (x : Nat → Int) (w : World) (hn : n < 4000000000) (hq0 : q < 100000) (hr0 : r < 64) (hrp : 0 < r) (hq : s / 64 = q) (hr : s % 64 = r) (hs : 0 ≤ s) (h : Num w (some ⟨b, off, none⟩) n c x) :
    Calls Tryz.prog 28 #[.slice (some ⟨b, off, none⟩) n c, .int .i64 s] w fun e w' => ∃ g k cap, e = .returned (.slice (some ⟨g, 0, none⟩) k cap) ∧ k ≤ n + q + 1 ∧ Num w' (some ⟨g, 0, none⟩) k cap (finL x q r) ∧ Below w.heap.size w w' ∧ w.heap.size ≤ g ∧ sizeL (finL x q r) k = k := by
  have hx := h.2.2.1
  have zx := h.2.2.2.1
  have hc : b < w.heap.size ∧ ∀ i, i < n → w.cell? ⟨b, off + i, none⟩ = some (.int .u64 (x i)) := by
    rcases h.2.2.2.2 with ⟨h, _⟩ | ⟨b', off', h, hbs, hc⟩
    · cases h
    · cases h; exact ⟨hbs, hc⟩
  obtain ⟨hbs, hc⟩ := hc
  have hcap := h.1
  have hs6 : s < 6400064 := by omega
  obtain ⟨M, hM⟩ : ∃ M, n + q + 1 = M := ⟨_, rfl⟩
  have hMi : (n : Int) + q + 1 = (M : Int) := by omega
  have hmk := fun w => make_any ((n : Int) + q + 1) M hMi (by omega) w
  have hfin : ∀ (ss : Array Value) (m : Nat), ss.size = M → (∀ j h, ss[j]'h = Value.int .u64 (stL x q r n j)) → Num ((w.alloc (.cells ss 22)).drewN m) (some ⟨w.heap.size, 0, none⟩) M M (finL x q r) := fun ss m h1 h2 => (num_of_block (by omega) (finL_words hx q r) (fun i hi => finL_zero hx zx q r (by omega) i (by omega)) h1 (fun j hj => by rw [h2 j hj, stL_end hx zx q r j (by omega)])).drewN m
  have HM : Hid (n + q + 1 = M) := hM
  have HZ : Hid ((arrOf (fun _ => 0) M).size = M ∧ ∀ j h, (arrOf (fun _ => 0) M)[j]'h = Value.int .u64 0) := ⟨arrOf_size _ _, fun j h => arrOf_get _ _ _ _⟩
  have hcw : ∀ (ss : Array Value) i, i < n → (w.alloc (.cells ss 22)).cell? ⟨b, off + i, none⟩ = some (.int .u64 (x i)) := fun ss i hi => ((below1 w _).cell (p := ⟨b, off + i, none⟩) hbs).trans (hc i hi)
  clear h zx hMi hc
  generalize arrOf (fun _ => 0) M = zz at *
  go_enter Tryz.func28, Tryz.ntmps28
  go_wp2
  go_loopw [6, 16] (fun u6 i wr => ∃ (k m : Nat) (ss : Array Value), k ≤ n ∧ i = .int .i64 k ∧ ss.size = M ∧ (∀ j h, ss[j]'h = Value.int .u64 (stL x q r k j)) ∧ wr = (w.alloc (.cells ss 22)).drewN m) (fun _ i _ => n - (intOf i).toNat)
  case atStart => exact ⟨0, 0, zz, Nat.zero_le _, rfl, HZ.out.1, fun j h => by rw [HZ.out.2 j h]; unfold stL; (by_cases e : j < q + 0); (rw [if_pos e]; unfold finL; rw [if_neg (by omega)]); (rw [if_neg e]; split; (unfold lowp; rw [if_neg (by omega)]); rfl), rfl⟩
  case round =>
    obtain ⟨k, m, ss, hk, rfl, hsz, hss, rfl⟩ := hrel
    by_cases h8 : k < n
    · have h8i : (k : Int) < n := by omega
      have h8s : k + q < ss.size := by omega
      have h8t : (k : Int) + q < M := by omega
      have h8u : (k : Int) + q + 1 < M := by omega
      have bx := hx k
      have hcx := hcw ss k h8
      have hsk : ss[k + q]? = some (.int .u64 (lowp x q r (q + k))) := by rw [Array.getElem?_eq_getElem h8s, hss _ h8s]; unfold stL; rw [if_neg (by omega), if_pos (by omega), Nat.add_comm]
      have hgo : ∀ h, ss[k + q]'h = .int .u64 (lowp x q r (q + k)) := fun h => by rw [hss _ h]; unfold stL; rw [if_neg (by omega), if_pos (by omega), Nat.add_comm]
      have h8v : k + q + 1 < ss.size := by omega
      have hsl : ss[k + q + 1]? = some (.int .u64 0) := by rw [Array.getElem?_eq_getElem h8v, hss _ h8v]; unfold stL; rw [if_neg (by omega), if_neg (by omega)]
      have hlow := lowp_word hx q r (q + k)
      have e1 : ((k : Int) + q).toNat = k + q := by omega
      have e2 : ((k : Int) + q + 1).toNat = k + q + 1 := by omega
      have HF : Hid (finL x q r (q + k) = bits BinOp.or IntKind.u64 (lowp x q r (q + k)) (IntKind.u64.wrap (x k * 2 ^ r))) := by
        show _ = _; unfold finL; rw [if_pos (by omega), show q + k - q = k by omega]; rfl
      have HR : Hid (∀ (i : Nat) (h : i < ((ss.setIfInBounds (k + q) (.int .u64 (finL x q r (q + k)))).setIfInBounds (k + q + 1) (.int .u64 (x k / 2 ^ (64 - r)))).size), ((ss.setIfInBounds (k + q) (.int .u64 (finL x q r (q + k)))).setIfInBounds (k + q + 1) (.int .u64 (x k / 2 ^ (64 - r))))[i]'h = Value.int .u64 (stL x q r (k + 1) i)) := stL_step1 hrp hss
      clear hss hfin hmk hx
      generalize hlo : lowp x q r (q + k) = lo at *
      have hcx' := hcw (ss.setIfInBounds (k + q) (.int .u64 (bits BinOp.or IntKind.u64 lo (IntKind.u64.wrap (x k * 2 ^ r))))) k h8
      clear hcw
      go_wp2
      go_region
      go_wp2
      go_roundw
      case rel => refine ⟨k + 1, m + 1, (ss.setIfInBounds (k + q) (.int .u64 (finL x q r (q + k)))).setIfInBounds (k + q + 1) (.int .u64 (x k / 2 ^ (64 - r))), by omega, by go_num, by simp [hsz], HR.out, ?_⟩; rw [HF.out]
      case measure => simp [intOf]; omega
    · obtain rfl : k = n := by omega
      have hT := ftrim_any _ _ _ _ _ (by omega) (hfin ss m hsz hss)
      have hle := sizeL_le (finL x q r) M
      clear hss hfin hmk hx hcw
      go_wp2_with (go_at_call 67; refine hT.mono ?_; rintro e w1 ⟨g, cap, rfl, hN, hB, hfg⟩)
      go_ret
      exact ⟨g, _, cap, rfl, Nat.le_trans hle (Nat.le_of_eq HM.out.symm), hN, (below_drewN (below1 w _) m).trans (hB.mono (by simp)), by simp at hfg; omega, sizeL_sizeL _ _⟩
end Go.Proofs.YtplocajjfoiklaaGreatDoor

namespace Go.Proofs.YtplocajjfoiklaaGreatDoor
open Go.RowKit

theorem p64' (q r : Nat) : (18446744073709551616 : Int) ^ q * 2 ^ r = 2 ^ (64 * q + r) := by rw [Int.mul_comm]; exact p64 q r
/-- a number lies between two powers of two, by its length -/
theorem len_bd {x : Nat → Int} (hx : Words x) {n : Nat} (h : 0 < sizeL x n) : ∃ L : Nat, lenL x n = (L : Int) + 1 ∧ 2 ^ L ≤ val x n ∧ val x n < 2 ^ (L + 1) := by
  obtain ⟨j, hj⟩ : ∃ j, sizeL x n = j + 1 := ⟨sizeL x n - 1, by omega⟩
  have ht := sizeL_top (x := x) n h
  rw [hj] at ht
  have hxj := hx j
  have hne : x j ≠ 0 := ht
  obtain ⟨u, hu⟩ := Int.eq_ofNat_of_zero_le hxj.1
  have hb := bitLen_spec u (by omega) (by omega)
  have hv : val x n = val x j + x j * 18446744073709551616 ^ j := by rw [← val_bare n, hj]; rfl
  have hbd := val_bd hx j
  have hP := pw_pos j
  refine ⟨64 * j + (Lib.bitLen u - 1), ?_, ?_, ?_⟩
  · unfold lenL; rw [if_neg (by omega), hj]
    show 64 * ((j + 1 : Nat) : Int) - 64 + (Lib.bitLen (x j).toNat : Nat) = _
    rw [hu, Int.toNat_natCast]; omega
  · rw [hv, ← p64', hu]
    have h1 : (2 : Int) ^ (Lib.bitLen u - 1) ≤ u := by rw [← powCast]; omega
    have h2 : 18446744073709551616 ^ j * 2 ^ (Lib.bitLen u - 1) ≤ 18446744073709551616 ^ j * (u : Int) := Int.mul_le_mul_of_nonneg_left h1 (Int.le_of_lt hP)
    rw [Int.mul_comm _ (u : Int)] at h2
    omega
  · rw [hv, show 64 * j + (Lib.bitLen u - 1) + 1 = 64 * j + Lib.bitLen u by omega, ← p64', hu]
    have h1 : (u : Int) + 1 ≤ 2 ^ Lib.bitLen u := by rw [← powCast]; omega
    have h2 : 18446744073709551616 ^ j * ((u : Int) + 1) ≤ 18446744073709551616 ^ j * 2 ^ Lib.bitLen u := Int.mul_le_mul_of_nonneg_left h1 (Int.le_of_lt hP)
    rw [Int.mul_add, Int.mul_one, Int.mul_comm _ (u : Int)] at h2
    omega
end Go.Proofs.YtplocajjfoiklaaGreatDoor

namespace Go.Proofs.YtplocajjfoiklaaGreatDoor
open Go.RowKit

theorem times_val (b off n c b' off' n' c' : Nat) (x y : Nat → Int) (w : World) (hn : n < 1000000) (hn' : n' < 1000000) (h : Num w (some ⟨b, off, none⟩) n c x) (h' : Num w (some ⟨b', off', none⟩) n' c' y) :
    Calls Tryz.prog 122 #[.slice (some ⟨b, off, none⟩) n c, .slice (some ⟨b', off', none⟩) n' c'] w fun e w' => ∃ g k cap z, e = .returned (.slice (some ⟨g, 0, none⟩) k cap) ∧ k ≤ n + n' + 1 ∧ Num w' (some ⟨g, 0, none⟩) k cap z ∧ val z k = val x n * val y n' ∧ Below w.heap.size w w' :=
  (times_raw b off n c b' off' n' c' x y w hn hn' h h').mono fun e w' ⟨g, k, cap, z, e1, hk, hN, hv, hB⟩ => ⟨g, k, cap, z, e1, hk, hN, by rw [← hv, val_more hN.2.2.2.1 _ hk], hB⟩

end Go.Proofs.YtplocajjfoiklaaGreatDoor

namespace Go.Proofs.YtplocajjfoiklaaGreatDoor
open Go.RowKit

theorem fleft_val (b off n c : Nat) (d : Int) (x : Nat → Int) (w : World) (hn : n < 1000000) (hd : 0 ≤ d) (hd2 : d ≤ 6300000) (h : Num w (some ⟨b, off, none⟩) n c x) :
    Calls Tryz.prog 28 #[.slice (some ⟨b, off, none⟩) n c, .int .i64 d] w fun e w' => ∃ g k cap z, e = .returned (.slice (some ⟨g, 0, none⟩) k cap) ∧ k ≤ n + d.toNat / 64 + 1 ∧ Num w' (some ⟨g, 0, none⟩) k cap z ∧ val z k = val x n * 2 ^ d.toNat ∧ Below w.heap.size w w' ∧ w.heap.size ≤ g ∧ sizeL z k = k := by
  obtain ⟨q, hq⟩ : ∃ q : Nat, d / 64 = q := ⟨(d / 64).toNat, by omega⟩
  obtain ⟨r, hr⟩ : ∃ r : Nat, d % 64 = r := ⟨(d % 64).toNat, by omega⟩
  have hdn : d.toNat = 64 * q + r := by omega
  have hr64 : r < 64 := by omega
  have hq2 : q < 99000 := by omega
  have hx := h.2.2.1
  have hv := finL_val hx h.2.2.2.1 q hr64
  rw [hdn]
  by_cases hr0 : 0 < r
  · exact (fleft_p b off n c q r d x w (by omega) (by omega) hr64 hr0 hq hr hd h).mono fun e w' ⟨g, k, cap, e1, hk, hN, hB, hf, htr⟩ => ⟨g, k, cap, _, e1, by omega, hN, by rw [← hv, val_more hN.2.2.2.1 _ hk], hB, hf, htr⟩
  · obtain rfl : r = 0 := by omega
    exact (fleft_z b off n c q d x w (by omega) (by omega) hq hr hd h).mono fun e w' ⟨g, k, cap, e1, hk, hN, hB, hf, htr⟩ => ⟨g, k, cap, _, e1, by omega, hN, by rw [← hv, val_more hN.2.2.2.1 _ hk], hB, hf, htr⟩
end Go.Proofs.YtplocajjfoiklaaGreatDoor

namespace Go.Proofs.YtplocajjfoiklaaGreatDoor
open Go.RowKit

/-- words shifted down, by whole words and bits: their value -/
theorem shrW_val {y : Nat → Int} {n q r A : Nat} (hy : Words y) (hz : ∀ i, n ≤ i → y i = 0) (hr : r < 64) (m : Nat) (hm : n ≤ m) (hA : val y n = A) : val (shrW y q r) m = ((A / 2 ^ (64 * q + r) : Nat) : Int) := by
  have hw : Words (fun i => y (q + i)) := fun i => hy (q + i)
  have e1 : shrW y q r = shrW (fun i => y (q + i)) 0 r := by
    funext j; unfold shrW; simp only [Nat.zero_add, Nat.add_assoc]
  have h1 := dn_val hw hr m
  have h2 : y (q + m) = 0 := hz _ (by omega)
  simp only [h2, Int.zero_emod, Int.zero_mul, Int.add_zero, Nat.add_zero] at h1
  have h3 := val_split y q m
  have h4 : val (segW y q m) m = val (fun i => y (q + i)) m := val_congr m fun i hi => segW_lt y q m i hi
  rw [h4, val_more hz (q + m) (by omega), hA] at h3
  rw [e1]
  have hb1 := val_bd hy q
  have hb2 := val_bd (shrW_words hw (q := 0) (r := r)) m
  have hp : (0 : Int) < 2 ^ r := p2_pos r
  have hm1 := Int.emod_nonneg (y q) (Int.ne_of_gt hp)
  have hm2 := Int.emod_lt_of_pos (y q) hp
  generalize val (shrW (fun i => y (q + i)) 0 r) m = S at *
  generalize val (fun i => y (q + i)) m = Z at *
  have eZ : Z / 2 ^ r = S := by
    rw [← h1, Int.add_comm, Int.add_mul_ediv_right _ _ (Int.ne_of_gt hp), Int.ediv_eq_zero_of_lt hm1 hm2, Int.zero_add]
  have eA : (A : Int) / 18446744073709551616 ^ q = Z := by
    rw [h3, Int.add_mul_ediv_right _ _ (Int.ne_of_gt (pw_pos q)), Int.ediv_eq_zero_of_lt hb1.1 hb1.2, Int.zero_add]
  rw [← eZ, ← eA, Int.natCast_ediv, Int.ediv_ediv_of_nonneg (Int.le_of_lt (pw_pos q)), p64']
  simp
end Go.Proofs.YtplocajjfoiklaaGreatDoor

namespace Go.Proofs.YtplocajjfoiklaaGreatDoor
open Go.RowKit

theorem bnx {w0 W W' : World} (h : Below w0.heap.size w0 W) (hb : Below W.heap.size W W') : Below w0.heap.size w0 W' := h.trans (hb.mono h.size)
/-- how many bits a number has -/
def bl (V : Nat) : Nat := if V = 0 then 0 else Nat.log2 V + 1
theorem bl_le {V k : Nat} : bl V ≤ k ↔ V < 2 ^ k := by
  unfold bl
  by_cases h : V = 0
  · subst h; simp; exact Nat.two_pow_pos k
  · rw [if_neg h]
    have := Nat.log2_lt h (k := k)
    omega
theorem bl_ge {V k : Nat} : k < bl V ↔ 2 ^ k ≤ V := by
  have := bl_le (V := V) (k := k)
  omega
theorem bl_zero {V : Nat} : bl V = 0 ↔ V = 0 := by
  unfold bl; by_cases h : V = 0 <;> simp [h]
theorem bl_eq {V L : Nat} (h1 : 2 ^ (L - 1) ≤ V) (h2 : V < 2 ^ L) : bl V = L := by
  have a := bl_le.2 h2
  by_cases h : L = 0
  · omega
  · have b := bl_ge.2 h1
    omega
/-- a number in a list of words, at most K of them -/
def Nt (K V : Nat) (v : Value) (w : World) : Prop := ∃ a k cap z, v = .slice a k cap ∧ k ≤ K ∧ Num w a k cap z ∧ val z k = (V : Int)
theorem Nt.next {K V : Nat} {v : Value} {w w' : World} (h : Nt K V v w) (hb : Below w.heap.size w w') : Nt K V v w' := by
  obtain ⟨a, k, cap, z, h1, h2, h3, h4⟩ := h
  exact ⟨a, k, cap, z, h1, h2, h3.next hb, h4⟩
theorem Nt.more {K K' V : Nat} {v : Value} {w : World} (h : Nt K V v w) (hk : K ≤ K') : Nt K' V v w := by
  obtain ⟨a, k, cap, z, h1, h2, h3, h4⟩ := h
  exact ⟨a, k, cap, z, h1, by omega, h3, h4⟩
/-- without noughts at its end -/
def Nz (K V : Nat) (v : Value) (w : World) : Prop := ∃ a k cap z, v = .slice a k cap ∧ k ≤ K ∧ Num w a k cap z ∧ val z k = (V : Int) ∧ sizeL z k = k
theorem Nz.next {K V : Nat} {v : Value} {w w' : World} (h : Nz K V v w) (hb : Below w.heap.size w w') : Nz K V v w' := by
  obtain ⟨a, k, cap, z, h1, h2, h3, h4, h5⟩ := h
  exact ⟨a, k, cap, z, h1, h2, h3.next hb, h4, h5⟩
theorem Nz.nt {K V : Nat} {v : Value} {w : World} (h : Nz K V v w) : Nt K V v w := by
  obtain ⟨a, k, cap, z, h1, h2, h3, h4, h5⟩ := h
  exact ⟨a, k, cap, z, h1, h2, h3, h4⟩
theorem size_zero {z : Nat → Int} {k V : Nat} (hz : Words z) (hv : val z k = (V : Int)) : sizeL z k = 0 ↔ V = 0 := by
  constructor
  · intro h
    have := val_bare (x := z) k
    rw [h] at this
    have h0 : val z 0 = 0 := rfl
    omega
  · intro h
    subst h
    rcases Nat.eq_zero_or_pos (sizeL z k) with h | h
    · exact h
    · exfalso
      have := val_longer (x := z) (y := z) hz hz (n := 0) (m := sizeL z k) h (sizeL_sizeL z k)
      rw [val_bare] at this
      have h0 : val z 0 = 0 := rfl
      omega
theorem len_bl {z : Nat → Int} {k V : Nat} (hz : Words z) (hv : val z k = (V : Int)) : lenL z k = (bl V : Int) := by
  rcases Nat.eq_zero_or_pos (sizeL z k) with h | h
  · have h0 := (size_zero hz hv).1 h
    unfold lenL; rw [if_pos h, h0]; rfl
  · obtain ⟨L, h1, h2, h3⟩ := len_bd hz h
    rw [hv] at h2 h3
    have e : bl V = L + 1 := by
      have e1 : ((2 : Int) ^ L) = ((2 ^ L : Nat) : Int) := by simp
      have e2 : ((2 : Int) ^ (L + 1)) = ((2 ^ (L + 1) : Nat) : Int) := by simp
      rw [e1] at h2
      rw [e2] at h3
      exact bl_eq (by rw [Nat.add_sub_cancel]; omega) (by omega)
    rw [e, h1]; omega
/-- how many words -/
theorem size_bl {z : Nat → Int} {k V m : Nat} (hz : Words z) (hv : val z k = (V : Int)) : sizeL z k ≤ m ↔ bl V ≤ 64 * m := by
  have hl := len_bl hz hv
  unfold lenL at hl
  rcases Nat.eq_zero_or_pos (sizeL z k) with h | h
  · rw [if_pos h] at hl; omega
  · rw [if_neg (by omega)] at hl
    have ht := sizeL_top k h
    have hw := hz (sizeL z k - 1)
    have hb := bitLen_spec (z (sizeL z k - 1)).toNat (by omega) (by omega)
    omega
theorem nlen_v {K V : Nat} {v : Value} {w : World} (hK : K < 100000000) (h : Nt K V v w) :
    Calls Tryz.prog 77 #[v] w fun e w' => e = .returned (.int .i64 (bl V : Int)) ∧ w = w' := by
  obtain ⟨a, k, cap, z, rfl, hk, hN, hv⟩ := h
  refine (nlen_any a k cap z w (by omega) hN).mono fun e w' ⟨h1, h2⟩ => ⟨?_, h2⟩
  rw [h1, len_bl hN.2.2.1 hv]
theorem nshl_v {K V : Nat} {v : Value} {w : World} (d : Nat) (hK : K < 100000000) (h : Nt K V v w) (hd : bl V + d ≤ 127000) :
    Calls Tryz.prog 179 #[v, .int .i64 (d : Int)] w fun e w' => ∃ r, e = .returned (.tuple #[r, .int .i64 0]) ∧ Nz 2001 (V * 2 ^ d) r w' ∧ Below w.heap.size w w' := by
  obtain ⟨a, k, cap, z, rfl, hk, hN, hv⟩ := h
  have hs := (size_bl (m := (bl V + 63) / 64) hN.2.2.1 hv).2 (by omega)
  refine (nshl_any a k cap z d w (by omega) hN (by omega) (by omega)).mono fun e w' ⟨g, k', cap', z', h1, h2, h3, h4, h5, h6⟩ => ⟨_, h1, ⟨_, k', cap', z', rfl, h2, h3, ?_, h5⟩, h6⟩
  rw [h4, hv]; simp
theorem ncmp_v {K K' V V' : Nat} {v v' : Value} {w : World} (hK : K < 100000000) (hK' : K' < 100000000) (h : Nt K V v w) (h' : Nt K' V' v' w) :
    Calls Tryz.prog 131 #[v, v'] w fun e w' => e = .returned (.int .i64 (sgn (V : Int) (V' : Int))) ∧ Below w.heap.size w w' := by
  obtain ⟨a, k, cap, z, rfl, hk, hN, hv⟩ := h
  obtain ⟨a', k', cap', z', rfl, hk', hN', hv'⟩ := h'
  have := ncmp_b a a' k cap k' cap' z z' w (by omega) (by omega) hN hN'
  rw [hv, hv'] at this
  exact this
theorem nadd_v {K K' V V' : Nat} {v v' : Value} {w : World} (hK : K < 100000000) (hK' : K' < 100000000) (h : Nt K V v w) (h' : Nt K' V' v' w) :
    Calls Tryz.prog 134 #[v, v'] w fun e w' => ∃ r, e = .returned r ∧ Nz (K + K' + 1) (V + V') r w' ∧ Below w.heap.size w w' := by
  obtain ⟨a, k, cap, z, rfl, hk, hN, hv⟩ := h
  obtain ⟨a', k', cap', z', rfl, hk', hN', hv'⟩ := h'
  have s1 := sizeL_le z k
  have s2 := sizeL_le z' k'
  refine (nadd_any a a' k cap k' cap' z z' w (by omega) (by omega) hN hN').mono fun e w' ⟨g, k2, cap2, z2, h1, h2, h3, h4, h5, h6⟩ => ⟨_, h1, ⟨_, k2, cap2, z2, rfl, by omega, h3, ?_, h5⟩, h6⟩
  rw [h4, hv, hv']; omega
theorem ndiv_v {K K' V V' : Nat} {v v' : Value} {w : World} (hK : K < 100000000) (hK' : K' < 100000000) (h : Nt K V v w) (h' : Nt K' V' v' w) (hb : bl V ≤ 128000) (hb' : bl V' ≤ 128000) (h0 : V' ≠ 0) :
    Calls Tryz.prog 132 #[v, v'] w fun e w' => ∃ q r, e = .returned (.tuple #[q, r, .int .i64 0]) ∧ Nz 2001 (V / V') q w' ∧ Nz 2001 (V % V') r w' ∧ Below w.heap.size w w' := by
  obtain ⟨a, k, cap, z, rfl, hk, hN, hv⟩ := h
  obtain ⟨a', k', cap', z', rfl, hk', hN', hv'⟩ := h'
  have s1 := (size_bl (m := 2000) hN.2.2.1 hv).2 (by omega)
  have s2 := (size_bl (m := 2000) hN'.2.2.1 hv').2 (by omega)
  have s3 : 0 < sizeL z' k' := Nat.pos_of_ne_zero fun e => h0 ((size_zero hN'.2.2.1 hv').1 e)
  refine (ndiv_any a a' k cap k' cap' z z' w (by omega) (by omega) hN hN' s1 s2 s3).mono fun e w' ⟨o, k2, cap2, z2, o', k3, cap3, z3, h1, h2, h3, h4, h5, h6, h7, h8, h9, h10⟩ => ⟨_, _, h1, ⟨_, _, _, _, rfl, h2, h4, ?_, h8⟩, ⟨_, _, _, _, rfl, h3, h5, ?_, h9⟩, h10⟩
  · rw [h6, hv, hv']; simp
  · rw [h7, hv, hv']; simp
theorem nshr_v {K V : Nat} {v : Value} {w : World} (hK : K < 100000000) (h : Nt K V v w) :
    Calls Tryz.prog 82 #[v, .int .i64 1] w fun e w' => ∃ r b, e = .returned (.tuple #[r, .bool b]) ∧ Nz K (V / 2) r w' ∧ Below w.heap.size w w' := by
  obtain ⟨a, k, cap, z, rfl, hk, hN, hv⟩ := h
  refine (nshr_all a k cap z 1 w (by omega) hN (by decide)).mono fun e w' ⟨o, k2, cap2, h1, h2, h3, h4, h5⟩ => ⟨_, _, h1, ⟨_, _, _, _, rfl, by omega, h3, ?_, h4⟩, h5⟩
  have hz := h3.2.2.2.1
  have e1 : shrF z 1 = shrW z 0 1 := by unfold shrF; rw [if_neg (by decide)]; rfl
  rw [← val_more hz k h2, e1]
  exact shrW_val hN.2.2.1 hN.2.2.2.1 (by decide) k (Nat.le_refl _) hv
end Go.Proofs.YtplocajjfoiklaaGreatDoor

namespace Go.Proofs.YtplocajjfoiklaaGreatDoor
open Go.RowKit

theorem snoc_ind {P : List UInt8 → Prop} (h0 : P []) (h1 : ∀ m y, P m → P (m ++ [y])) (l : List UInt8) : P l := by
  have : ∀ r : List UInt8, P r.reverse := fun r => by
    induction r with
    | nil => exact h0
    | cons y r ih => rw [List.reverse_cons]; exact h1 _ _ ih
  have h := this l.reverse
  rwa [List.reverse_reverse] at h
/-- a digit's sign, and the digit of a sign -/
def hxd (v : Nat) : UInt8 := UInt8.ofNat (if v < 10 then 48 + v else 87 + v)
def hxB (y : UInt8) : Bool := decide ((48 ≤ y.toNat ∧ y.toNat ≤ 57) ∨ (97 ≤ y.toNat ∧ y.toNat ≤ 102))
def hxw (y : UInt8) : Nat := if y.toNat ≤ 57 then y.toNat - 48 else y.toNat - 87
theorem hxd_all : ∀ v, v < 16 → hxB (hxd v) = true ∧ hxw (hxd v) = v ∧ (hxd v == 48) = decide (v = 0) := by decide
theorem hxw_lt {y : UInt8} (h : hxB y = true) : hxw y < 16 := by
  unfold hxB at h
  have := of_decide_eq_true h
  unfold hxw
  split <;> omega
/-- the number of hexadecimal digits -/
def hxV (l : List UInt8) : Nat := l.foldl (fun a y => a * 16 + hxw y) 0
theorem hxV_nil : hxV [] = 0 := rfl
theorem hxV_snoc (l : List UInt8) (y : UInt8) : hxV (l ++ [y]) = hxV l * 16 + hxw y := by
  unfold hxV
  rw [List.foldl_append]
  rfl
theorem hxV_app (l m : List UInt8) : hxV (l ++ m) = hxV l * 16 ^ m.length + hxV m := by
  refine snoc_ind (P := fun m => hxV (l ++ m) = hxV l * 16 ^ m.length + hxV m) ?_ ?_ m
  · simp [hxV_nil]
  · intro m y ih
    rw [← List.append_assoc, hxV_snoc, ih, hxV_snoc, List.length_append, List.length_cons, List.length_nil, Nat.pow_succ]
    grind
theorem hxV_lt {l : List UInt8} (h : l.all hxB = true) : hxV l < 16 ^ l.length := by
  revert h
  refine snoc_ind (P := fun l => l.all hxB = true → hxV l < 16 ^ l.length) ?_ ?_ l
  · intro _; decide
  · intro m y ih h
    rw [List.all_append, Bool.and_eq_true] at h
    have h1 := ih h.1
    have h2 : hxw y < 16 := hxw_lt (by simpa using h.2)
    rw [hxV_snoc, List.length_append, List.length_cons, List.length_nil, Nat.pow_succ]
    omega
/-- c hexadecimal digits of a number -/
def hxL (N : Nat) : Nat → List UInt8
  | 0 => []
  | c + 1 => hxL (N / 16) c ++ [hxd (N % 16)]
theorem hxL_len (N c : Nat) : (hxL N c).length = c := by
  induction c generalizing N with
  | zero => rfl
  | succ c ih => simp [hxL, ih]
theorem hxL_all (N c : Nat) : (hxL N c).all hxB = true := by
  induction c generalizing N with
  | zero => rfl
  | succ c ih =>
    rw [hxL, List.all_append, ih, Bool.true_and]
    simp [(hxd_all (N % 16) (Nat.mod_lt _ (by decide))).1]
theorem hxL_val {N c : Nat} (h : N < 16 ^ c) : hxV (hxL N c) = N := by
  induction c generalizing N with
  | zero => simp at h; rw [h]; rfl
  | succ c ih =>
    rw [hxL, hxV_snoc, ih (by rw [Nat.pow_succ] at h; omega), (hxd_all (N % 16) (Nat.mod_lt _ (by decide))).2.1]
    omega
/-- the i-th of them -/
theorem hxL_get {N c i : Nat} (h : i < c) : (hxL N c)[i]? = some (hxd (N / 16 ^ (c - 1 - i) % 16)) := by
  induction c generalizing N with
  | zero => omega
  | succ c ih =>
    rw [hxL]
    by_cases hi : i < c
    · rw [List.getElem?_append_left (by rw [hxL_len]; exact hi), ih hi]
      congr 3
      rw [Nat.div_div_eq_div_mul, show c + 1 - 1 - i = (c - 1 - i) + 1 by omega, Nat.pow_succ, Nat.mul_comm]
    · have : i = c := by omega
      subst this
      rw [List.getElem?_append_right (by rw [hxL_len]; exact Nat.le_refl _), hxL_len]
      simp
/-- without noughts at the end -/
def hxS (l : List UInt8) : List UInt8 := Lib.trimRightB l 48
theorem hxS_zero (l : List UInt8) : hxS (l ++ [48]) = hxS l := by
  unfold hxS Lib.trimRightB
  rw [List.reverse_append]
  rfl
theorem hxS_else (l : List UInt8) {y : UInt8} (h : (y == 48) = false) : hxS (l ++ [y]) = l ++ [y] := by
  unfold hxS Lib.trimRightB
  rw [List.reverse_append, show [y].reverse ++ l.reverse = y :: l.reverse from rfl, List.dropWhile_cons, if_neg (by rw [h]; decide)]
  simp
theorem hxS_val {l : List UInt8} (h : l.all hxB = true) : (hxS l).all hxB = true ∧ (hxS l).length ≤ l.length ∧ hxV l = hxV (hxS l) * 16 ^ (l.length - (hxS l).length) := by
  revert h
  refine snoc_ind (P := fun l => l.all hxB = true → (hxS l).all hxB = true ∧ (hxS l).length ≤ l.length ∧ hxV l = hxV (hxS l) * 16 ^ (l.length - (hxS l).length)) ?_ ?_ l
  · intro _; exact ⟨rfl, Nat.le_refl _, rfl⟩
  · intro m y ih h
    by_cases hy : (y == 48) = true
    · have : y = 48 := by simpa using hy
      subst this
      rw [List.all_append, Bool.and_eq_true] at h
      obtain ⟨i1, i2, i3⟩ := ih h.1
      rw [hxS_zero, hxV_snoc, List.length_append, List.length_cons, List.length_nil, i3]
      refine ⟨i1, by omega, ?_⟩
      rw [show m.length + (0 + 1) - (hxS m).length = (m.length - (hxS m).length) + 1 by omega, Nat.pow_succ, show hxw 48 = 0 from rfl]
      grind
    · have hy' : (y == 48) = false := by simpa using hy
      rw [hxS_else m hy']
      exact ⟨h, Nat.le_refl _, by rw [Nat.sub_self, Nat.pow_zero, Nat.mul_one]⟩
end Go.Proofs.YtplocajjfoiklaaGreatDoor

namespace Go.Proofs.YtplocajjfoiklaaGreatDoor
open Go.RowKit

/-- a text of these bytes -/
def B (l : List UInt8) : ByteArray := ⟨l.toArray⟩
theorem B_of (s : ByteArray) : B s.data.toList = s := by cases s; rfl
theorem B_size (l : List UInt8) : (B l).size = l.length := rfl
theorem B_get {l : List UInt8} {i : Nat} (h : i < (B l).size) : (B l)[i]'h = l[i]'(by rwa [B_size] at h) := by
  show (B l).data[i]'_ = _
  simp [B]
theorem B_ext (l : List UInt8) (a b : Nat) : (B l).extract a b = B ((l.take b).drop a) := by
  apply ByteArray.ext
  rw [ByteArray.data_extract]
  show l.toArray.extract a b = ((l.take b).drop a).toArray
  rw [List.extract_toArray, List.extract_eq_take_drop, List.drop_take]
theorem B_app (a b : List UInt8) : B a ++ B b = B (a ++ b) := by
  apply ByteArray.ext
  rw [ByteArray.data_append]
  show a.toArray ++ b.toArray = (a ++ b).toArray
  simp
/-- byte i -/
def by_ (l : List UInt8) (i : Nat) : Int := if h : i < l.length then ((l[i]'h).toNat : Int) else 0
theorem by_lt {l : List UInt8} {i : Nat} (h : i < (B l).size) : (((B l)[i]'h).toNat : Int) = by_ l i := by
  rw [B_get h]; unfold by_; rw [dif_pos (by rwa [B_size] at h)]
theorem by_bd (l : List UInt8) (i : Nat) : 0 ≤ by_ l i ∧ by_ l i ≤ 255 := by
  unfold by_; split
  · rename_i h; have := (l[i]'h).toNat_lt; omega
  · omega
theorem by_succ (c : UInt8) (r : List UInt8) (i : Nat) : by_ (c :: r) (i + 1) = by_ r i := by
  unfold by_
  by_cases h : i < r.length
  · rw [dif_pos h, dif_pos (by simpa using h)]; rfl
  · rw [dif_neg h, dif_neg (by simpa using h)]
theorem by_zero (c : UInt8) (r : List UInt8) : by_ (c :: r) 0 = (c.toNat : Int) := by simp [by_]
/-- a digit -/
def dg (c : UInt8) : Bool := decide (48 ≤ c.toNat ∧ c.toNat ≤ 57)
/-- the digits ahead -/
def dgs (l : List UInt8) : List UInt8 := l.takeWhile dg
def rst (l : List UInt8) : List UInt8 := l.dropWhile dg
theorem dgs_rst (l : List UInt8) : dgs l ++ rst l = l := List.takeWhile_append_dropWhile
theorem dgs_le (l : List UInt8) : (dgs l).length ≤ l.length := by
  have := congrArg List.length (dgs_rst l)
  rw [List.length_append] at this; omega
theorem take_dgs (l : List UInt8) : l.take (dgs l).length = dgs l := by
  conv => lhs; arg 2; rw [← dgs_rst l]
  simp
theorem drop_dgs (l : List UInt8) : l.drop (dgs l).length = rst l := by
  conv => lhs; arg 2; rw [← dgs_rst l]
  simp
theorem dgs_at : ∀ (l : List UInt8) (i : Nat), i < (dgs l).length → 48 ≤ by_ l i ∧ by_ l i ≤ 57
  | [], i, h => by simp [dgs] at h
  | c :: r, i, h => by
    unfold dgs at h
    rw [List.takeWhile_cons] at h
    split at h
    · rename_i hc
      unfold dg at hc
      simp at hc
      cases i with
      | zero => simp [by_]; omega
      | succ i =>
        have := dgs_at r i (by simpa [dgs] using h)
        rw [by_succ]
        exact this
    · simp at h
theorem dgs_stop : ∀ (l : List UInt8), (dgs l).length < l.length → ¬ (48 ≤ by_ l (dgs l).length ∧ by_ l (dgs l).length ≤ 57)
  | [], h => by simp [dgs] at h
  | c :: r, h => by
    unfold dgs at h ⊢
    rw [List.takeWhile_cons] at h ⊢
    split at h
    · rename_i hc
      rw [if_pos hc]
      have := dgs_stop r (by simpa [dgs] using h)
      rw [List.length_cons, by_succ]
      exact this
    · rename_i hc
      rw [if_neg hc]
      unfold dg at hc
      simp at hc
      simp [by_]
      intro h1
      omega
end Go.Proofs.YtplocajjfoiklaaGreatDoor
