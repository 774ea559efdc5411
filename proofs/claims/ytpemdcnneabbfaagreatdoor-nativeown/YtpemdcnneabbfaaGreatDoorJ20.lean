/-
  Texts that the proof leans on.
-/
import Derived.Test.YtpemdcnneabbfaaGreatDoorJ16
import Derived.Test.YtpemdcnneabbfaaGreatDoorJ12
set_option linter.unusedVariables false
set_option linter.unusedSimpArgs false
set_option linter.unusedSectionVars false
set_option maxRecDepth 20000
namespace Go.Proofs.YtpemdcnneabbfaaGreatDoor
open Go.RowKit
section
attribute [local go_sem] setCell_drewN alloc_drewN

set_option maxHeartbeats 2000000 in
theorem times_tr (b off n c b' off' n' c' : Nat) (x y : Nat → Int) (w : World) (hn : n < 1000000) (hn' : n' < 1000000) (h : Num w (some ⟨b, off, none⟩) n c x) (h' : Num w (some ⟨b', off', none⟩) n' c' y) :
    Calls Tryz.prog 67 #[.slice (some ⟨b, off, none⟩) n c, .slice (some ⟨b', off', none⟩) n' c'] w fun e w' => ∃ g k cap z, e = .returned (.slice (some ⟨g, 0, none⟩) k cap) ∧ k ≤ n + n' + 1 ∧ Num w' (some ⟨g, 0, none⟩) k cap z ∧ val z (n + n' + 1) = val x n * val y n' ∧ Below w.heap.size w w' ∧ sizeL z k = k := by
  have hx := h.2.2.1
  have hy := h'.2.2.1
  have hc : b < w.heap.size ∧ ∀ i, i < n → w.cell? ⟨b, off + i, none⟩ = some (.int .u64 (x i)) := by
    rcases h.2.2.2.2 with ⟨h, _⟩ | ⟨b', off', h, hbs, hc⟩
    · cases h
    · cases h; exact ⟨hbs, hc⟩
  have hc' : b' < w.heap.size ∧ ∀ i, i < n' → w.cell? ⟨b', off' + i, none⟩ = some (.int .u64 (y i)) := by
    rcases h'.2.2.2.2 with ⟨h, _⟩ | ⟨b', off', h, hbs, hc⟩
    · cases h
    · cases h; exact ⟨hbs, hc⟩
  have hcap := h.1
  have hcap' := h'.1
  obtain ⟨M, hM⟩ : ∃ M, n + n' + 1 = M := ⟨_, rfl⟩
  have hMi : (n : Int) + n' + 1 = (M : Int) := by omega
  have hmk := fun w => make_any ((n : Int) + n' + 1) M hMi (by omega) w
  have hcw : ∀ (ss : Array Value) i, i < n → (w.alloc (.cells ss 23)).cell? ⟨b, off + i, none⟩ = some (.int .u64 (x i)) := fun ss i hi => ((below1 w _).cell (p := ⟨b, off + i, none⟩) hc.1).trans (hc.2 i hi)
  have hcw' : ∀ (ss : Array Value) i, i < n' → (w.alloc (.cells ss 23)).cell? ⟨b', off' + i, none⟩ = some (.int .u64 (y i)) := fun ss i hi => ((below1 w _).cell (p := ⟨b', off' + i, none⟩) hc'.1).trans (hc'.2 i hi)
  have HM : Hid (n + n' + 1 = M) := hM
  have HZ : Hid ((arrOf (fun _ => 0) M).size = M ∧ ∀ j h, (arrOf (fun _ => 0) M)[j]'h = Value.int .u64 0) := ⟨arrOf_size _ _, fun j h => arrOf_get _ _ _ _⟩
  clear h h' hMi hc hc' hM
  generalize arrOf (fun _ => 0) M = zz at *
  go_enter Tryz.func67, Tryz.ntmps67
  go_wp2
  go_loopw [22] (fun i wr => ∃ (k m : Nat) (ss : Array Value) (z : Nat → Int), k ≤ n ∧ i = .int .i64 k ∧ ss.size = M ∧ (∀ j h, ss[j]'h = Value.int .u64 (z j)) ∧ Words z ∧ (∀ j, k + n' ≤ j → z j = 0) ∧ val z M = val x k * val y n' ∧ wr = (w.alloc (.cells ss 23)).drewN m) (fun i _ => n - (intOf i).toNat)
  case atStart =>
    refine ⟨0, 0, zz, fun _ => 0, Nat.zero_le _, rfl, HZ.out.1, HZ.out.2, fun _ => (by decide : (0 : Int) ≤ 0 ∧ (0 : Int) ≤ 18446744073709551615), fun _ _ => rfl, ?_, rfl⟩
    have : ∀ m, val (fun _ => 0) m = 0 := by intro m; induction m with | zero => rfl | succ m ih => simp only [val]; rw [ih]; simp
    rw [this]; simp [val]
  case round =>
    obtain ⟨k, m, ss, z, hk, rfl, hsz, hss, hzw, hz0, hv, rfl⟩ := hrel
    by_cases h8 : k < n
    · have h8i : (k : Int) < n := by omega
      have bx := hx k
      have hcx := fun ss => hcw ss k h8
      have h0p : (∀ j, k + n' ≤ j → z j = 0) := hz0
      go_wp2
      go_loopw [7, 27] (fun cc kk wr => ∃ (q m : Nat) (ss : Array Value) (z : Nat → Int) (C : Int), q ≤ n' ∧ kk = .int .i64 q ∧ cc = .int .u64 C ∧ (0 ≤ C ∧ C ≤ 18446744073709551615) ∧ ss.size = M ∧ (∀ j h, ss[j]'h = Value.int .u64 (z j)) ∧ Words z ∧ (∀ j, k + n' ≤ j → z j = 0) ∧ Hid (val z M + C * 18446744073709551616 ^ (k + q) = val x k * val y n' + x k * val y q * 18446744073709551616 ^ k) ∧ wr = (w.alloc (.cells ss 23)).drewN m) (fun _ kk _ => n' - (intOf kk).toNat)
      case atStart => exact ⟨0, m, ss, z, 0, Nat.zero_le _, rfl, rfl, by decide, hsz, hss, hzw, hz0, by show _ = _; rw [hv]; simp [val], rfl⟩
      case round =>
        clear hss hsz hzw hz0 hv h0p
        obtain ⟨q, m2, s2, z2, C, hq, rfl, rfl, hCb, hsz, hss, hzw, hz0, hv, rfl⟩ := hrel
        by_cases hqn : q < n'
        · have hqi : (q : Int) < n' := by omega
          have b_y := hy q
          have hcy := hcw' s2 q hqn
          have hcx2 := hcx s2
          have hp : k + q < s2.size := by have := HM.out; omega
          have hpi : (k : Int) + q < M := by have := HM.out; omega
          have e1 : ((k : Int) + q).toNat = k + q := by omega
          have hsp : s2[k + q]? = some (.int .u64 (z2 (k + q))) := by rw [Array.getElem?_eq_getElem hp, hss _ hp]
          have hsp' : ∀ h, s2[k + q]'h = .int .u64 (z2 (k + q)) := fun h => hss _ h
          have hzp := hzw (k + q)
          have hms := mul_step (x k) (y q) (z2 (k + q)) C bx b_y hzp hCb
          have hmul := mul64 (x k) (y q) bx b_y
          have hL0 : 0 ≤ x k * y q % 18446744073709551616 := Int.emod_nonneg _ (by decide)
          have hH0 : 0 ≤ x k * y q / 18446744073709551616 := Int.ediv_nonneg (Int.mul_nonneg bx.1 b_y.1) (by decide)
          have hA1 := fun w => add64z (x k * y q % 18446744073709551616) (z2 (k + q)) hL0 hzp.1 w
          have hs0 : 0 ≤ (x k * y q % 18446744073709551616 + z2 (k + q)) % 18446744073709551616 := Int.emod_nonneg _ (by decide)
          have hd0 : 0 ≤ (x k * y q % 18446744073709551616 + z2 (k + q)) / 18446744073709551616 := Int.ediv_nonneg (by omega) (by decide)
          have hA2 := fun w => add64z ((x k * y q % 18446744073709551616 + z2 (k + q)) % 18446744073709551616) C hs0 hCb.1 w
          have ht0 : 0 ≤ ((x k * y q % 18446744073709551616 + z2 (k + q)) % 18446744073709551616 + C) % 18446744073709551616 ∧ ((x k * y q % 18446744073709551616 + z2 (k + q)) % 18446744073709551616 + C) % 18446744073709551616 ≤ 18446744073709551615 := by omega
          have hf0 : 0 ≤ ((x k * y q % 18446744073709551616 + z2 (k + q)) % 18446744073709551616 + C) / 18446744073709551616 := Int.ediv_nonneg (by omega) (by decide)
          generalize ((x k * y q % 18446744073709551616 + z2 (k + q)) % 18446744073709551616 + C) % 18446744073709551616 = t2 at *
          generalize ((x k * y q % 18446744073709551616 + z2 (k + q)) % 18446744073709551616 + C) / 18446744073709551616 = f2 at *
          generalize (x k * y q % 18446744073709551616 + z2 (k + q)) % 18446744073709551616 = t1 at *
          generalize (x k * y q % 18446744073709551616 + z2 (k + q)) / 18446744073709551616 = f1 at *
          generalize x k * y q % 18446744073709551616 = lo at *
          generalize x k * y q / 18446744073709551616 = hi at *
          have HMS : Hid (t2 + (hi + f1 + f2) * 18446744073709551616 = x k * y q + z2 (k + q) + C) := hms.1
          have hb1 : 0 ≤ hi + f1 := hms.2.1
          have hb2 : hi + f1 ≤ 18446744073709551615 := hms.2.2.1
          have hb3 : 0 ≤ hi + f1 + f2 := hms.2.2.2.1
          have hb4 : hi + f1 + f2 ≤ 18446744073709551615 := hms.2.2.2.2
          have HSS : Hid (∀ j h, s2[j]'h = Value.int .u64 (z2 j)) := hss
          have HZW : Hid (Words z2) := hzw
          have HZ0 : Hid (∀ j, k + n' ≤ j → z2 j = 0) := hz0
          have HR : Hid (val (fun j => if j = k + q then t2 else z2 j) M + (hi + f1 + f2) * 18446744073709551616 ^ (k + (q + 1)) = val x k * val y n' + x k * val y (q + 1) * 18446744073709551616 ^ k) := by
            show _ = _
            rw [val_set z2 (k + q) t2 M (by have := HM.out; omega)]
            exact mul_inner _ _ _ _ _ _ _ _ _ k q hv.out hms.1
          clear hms hss hzw hz0 hx hy hcw hcw' hmk hv
          go_wp2
          go_quiet ((go_at_call 109; exact (hmul _).mono fun _ _ h => ⟨h.1, _, h.2⟩))
          go_wp2
          go_roundw
          case rel => exact ⟨q + 1, m2 + nq, s2.setIfInBounds (k + q) (.int .u64 t2), fun j => if j = k + q then t2 else z2 j, hi + f1 + f2, by omega, by go_num, rfl, ⟨hb3, hb4⟩, by simp [hsz], upd_get HSS.out, upd_words HZW.out ht0, fun j hj => (if_neg (show ¬ j = k + q by omega)).trans (HZ0.out j hj), HR, by simp [go_sem]⟩
          case measure => simp [intOf]; omega
        · obtain rfl : q = n' := by omega
          have hp : k + q < s2.size := by have := HM.out; omega
          have hpi : (k : Int) + q < M := by have := HM.out; omega
          have e1 : ((k : Int) + q).toNat = k + q := by omega
          have hsp : s2[k + q]? = some (.int .u64 0) := by rw [Array.getElem?_eq_getElem hp, hss _ hp, hz0 _ (Nat.le_refl _)]
          have HR : Hid (val (fun j => if j = k + q then C else z2 j) M = val x (k + 1) * val y q) := by
            show _ = _
            rw [val_set z2 (k + q) C M (by have := HM.out; omega), hz0 _ (Nat.le_refl _)]
            exact mul_outer _ _ _ _ _ k q hv.out
          have HSS : Hid (∀ j h, s2[j]'h = Value.int .u64 (z2 j)) := hss
          have HZW : Hid (Words z2) := hzw
          have HZ0 : Hid (∀ j, k + q ≤ j → z2 j = 0) := hz0
          clear hss hzw hz0 hx hy hcw hcw' hmk hv hcx
          go_wp2
          go_roundw
          case rel => exact ⟨k + 1, m2, s2.setIfInBounds (k + q) (.int .u64 C), fun j => if j = k + q then C else z2 j, by omega, by go_num, by simp [hsz], upd_get HSS.out, upd_words HZW.out hCb, fun j hj => (if_neg (show ¬ j = k + q by omega)).trans (HZ0.out j (by omega)), HR.out, by simp [go_sem]⟩
          case measure => simp [intOf]; omega
    · obtain rfl : k = n := by omega
      have hT := trim_any _ _ _ _ _ (by have := HM.out; omega) ((num_of_block (w := w) (by have := HM.out; omega) hzw (fun i hi => hz0 i (by have := HM.out; omega)) hsz hss).drewN m)
      have hle := sizeL_le z M
      clear hss hmk hx hy hcw hcw' hzw hz0
      go_wp2_with (go_at_call 18; refine hT.mono ?_; rintro e w1 ⟨g, cap, rfl, hN, hB⟩)
      go_ret
      exact ⟨g, _, cap, z, rfl, Nat.le_trans hle (Nat.le_of_eq HM.out.symm), hN, by rw [HM.out]; exact hv, (below_drewN (below1 w _) m).trans (hB.mono (by simp)), sizeL_sizeL _ _⟩
end
end Go.Proofs.YtpemdcnneabbfaaGreatDoor
