/-
  Texts that the proof leans on.
-/
import Derived.Test.YtpemdcnneabbfaaGreatDoorJ28
import Derived.Laws.BytesArg
import Derived.Test.YtpemdcnneabbfaaGreatDoorJ26
import Derived.Test.YtpemdcnneabbfaaGreatDoorJ11
import Derived.Test.YtpemdcnneabbfaaGreatDoorJ23
import Derived.Test.YtpemdcnneabbfaaGreatDoorJ16
set_option linter.unusedVariables false
set_option linter.unusedSimpArgs false
set_option linter.unusedSectionVars false
set_option maxRecDepth 20000
namespace Go.Proofs.YtpemdcnneabbfaaGreatDoor
open Go.RowKit
section
theorem quo_val {x : Nat → Int} {d : Int} (hx : Words x) (hd : 0 < d) (m : Nat) : val (quoW x d m) m = val x m / d ∧ remJ x d m m = val x m % d := by
  have h := div_val x d m m (Nat.le_refl _)
  simp only [Nat.sub_self, val, Int.pow_zero, Int.mul_one, Int.zero_add, Int.sub_zero] at h
  have hb := remJ_bd x d m m hd
  have e := (Int.ediv_emod_unique hd (a := val x m) (r := remJ x d m m) (q := val (quoW x d m) m)).2 ⟨h, hb.1, hb.2⟩
  exact ⟨e.1.symm, e.2.symm⟩
theorem divZ_words {x : Nat → Int} {d : Int} (hx : Words x) (hd : 0 < d) (m k : Nat) : Words (divZ x d m k) := fun i => by unfold divZ; split; exact quoW_words hx hd m i; exact hx i

theorem val_oneA (c : Int) : val (oneW c) 1 = c := by simp [val, oneW]
/-- the two answers of a division, and what is told -/
def DivOut (n n' : Nat) (X Y : Int) (w : World) (e : Ending) (w' : World) : Prop :=
  ∃ o k cap z o' k' cap' z', e = .returned (.tuple #[.slice o k cap, .slice o' k' cap', .int .i64 0]) ∧ k ≤ 2001 ∧ k' ≤ 2001 ∧ Num w' o k cap z ∧ Num w' o' k' cap' z' ∧ val z k = X / Y ∧ val z' k' = X % Y ∧ sizeL z k = k ∧ sizeL z' k' = k' ∧ Below w.heap.size w w'

set_option maxHeartbeats 400000 in
theorem ndiv_less (a a' : Option Addr) (n c n' c' : Nat) (x y : Nat → Int) (w : World) (hn : n < 4000000000) (hn' : n' < 4000000000) (h : Num w a n c x) (h' : Num w a' n' c' y) (hs : sizeL x n ≤ 2000) (hs' : sizeL y n' ≤ 2000) (hlt : sizeL x n < sizeL y n') :
    Calls Tryz.prog 102 #[.slice a n c, .slice a' n' c'] w (DivOut n n' (val x n) (val y n') w) := by
  have hb := bare_any a n c x w (by omega) h
  have hb' := bare_any a' n' c' y w (by omega) h'
  have hle := sizeL_le x n
  have hle' := sizeL_le y n'
  have ht := ntrim_any a (sizeL x n) c x w (by omega) h.bare
  rw [sizeL_sizeL] at ht
  have hv := val_longer h.2.2.1 h'.2.2.1 hlt (sizeL_sizeL y n')
  rw [val_bare, val_bare] at hv
  have hx0 := (val_bd h.2.2.1 n).1
  have HV : Hid (val x n / val y n' = 0 ∧ val x n % val y n' = val x n) := ⟨Int.ediv_eq_zero_of_lt hx0 hv, Int.emod_eq_of_lt hx0 hv⟩
  have HN : Hid (Num (w.alloc (.cells (arrOf x (sizeL x n)) 23)) (some ⟨w.heap.size, 0, none⟩) (sizeL x n) (sizeL x n) x) := num_of_block (by omega) h.2.2.1 h.bare.2.2.2.1 (arrOf_size _ _) (fun j hj => arrOf_get _ _ _ _)
  have HVX : Hid (val x (sizeL x n) = val x n) := val_bare n
  have HSS : Hid (sizeL x (sizeL x n) = sizeL x n) := sizeL_sizeL x n
  have hlti : (sizeL x n : Int) < sizeL y n' := by omega
  have hsi : (sizeL x n : Int) ≤ 2000 := by omega
  have hsi' : (sizeL y n' : Int) ≤ 2000 := by omega
  have hne : ((sizeL y n' : Int) == 0) = false := by simp; omega
  generalize sizeL x n = s at *
  generalize sizeL y n' = s' at *
  clear h h' hv hx0
  generalize val x n = X at *
  generalize val y n' = Y at *
  go_enter Tryz.func102, Tryz.ntmps102
  go_wp2_with (first | (go_at_call_of 100 (Value.slice a n c); refine hb.mono ?_; rintro e w' ⟨rfl, rfl⟩) | (go_at_call_of 100 (Value.slice a' n' c'); refine hb'.mono ?_; rintro e w' ⟨rfl, rfl⟩) | (go_at_call 105; refine ht.mono ?_; rintro e w1 ⟨rfl, rfl⟩))
  go_ret3
  exact ⟨none, 0, 0, _, _, s, s, x, rfl, by omega, by omega, num_none _, HN.out, by rw [HV.out.1]; rfl, by rw [HV.out.2]; exact HVX.out, rfl, HSS.out, below1 w _⟩
set_option maxHeartbeats 1000000 in
theorem ndiv_one (a a' : Option Addr) (n c n' c' : Nat) (x y : Nat → Int) (w : World) (hn : n < 4000000000) (hn' : n' < 4000000000) (h : Num w a n c x) (h' : Num w a' n' c' y) (hs : sizeL x n ≤ 2000) (hs' : sizeL y n' = 1) (hlt : 1 ≤ sizeL x n) :
    Calls Tryz.prog 102 #[.slice a n c, .slice a' n' c'] w (DivOut n n' (val x n) (val y n') w) := by
  have hb := bare_any a n c x w (by omega) h
  have hb' := bare_any a' n' c' y w (by omega) h'
  have hle := sizeL_le x n
  have hle' := sizeL_le y n'
  have ht := ntrim_any a (sizeL x n) c x w (by omega) h.bare
  rw [sizeL_sizeL] at ht
  have hy1 : val y n' = y 0 := by rw [← val_bare n', hs']; simp [val]
  have hyt := sizeL_top (x := y) n' (by omega)
  rw [hs'] at hyt
  have hyb := h'.2.2.1 0
  have hy0 : 0 < y 0 := by have : y 0 ≠ 0 := hyt; omega
  obtain ⟨b', off', rfl, hbs', hc'⟩ := h'.cells (by omega)
  have hcy := hc' 0 (by omega)
  have hx := h.2.2.1
  have HVX : Hid (val x (sizeL x n) = val x n) := val_bare n
  rw [hs'] at hb'
  have hd := divideBy_any w.heap.size (sizeL x n) (sizeL x n) (sizeL x n) x (y 0) _ (Nat.le_refl _) (by omega) hx ⟨hy0, hyb.2⟩ (Own.new w x (sizeL x n))
  have hqv := quo_val hx hy0 (sizeL x n)
  rw [hy1]
  have hcy2 : (w.alloc (.cells (arrOf x (sizeL x n)) 23)).cell? ⟨b', off', none⟩ = some (.int .u64 (y 0)) := ((below1 w _).cell (p := ⟨b', off', none⟩) hbs').trans hcy
  have HB := below1 w (.cells (arrOf x (sizeL x n)) 23)
  have hsi : (sizeL x n : Int) ≤ 2000 := by omega
  have hs1i : ¬ (sizeL x n : Int) < 1 := by omega
  have hs1n : ¬ sizeL x n < 1 := by omega
  have HDW : Hid (Words (divZ x (y 0) (sizeL x n) 0)) := divZ_words hx hy0 _ 0
  have HDV : Hid (val (divZ x (y 0) (sizeL x n) 0) (sizeL x n) = val x n / y 0) := by
    show _ = _
    rw [val_congr (y := quoW x (y 0) (sizeL x n)) (sizeL x n) fun i hi => by unfold divZ; rw [if_pos (by omega)], hqv.1, HVX.out]
  have HRV : Hid (remJ x (y 0) (sizeL x n) (sizeL x n) = val x n % y 0) := by show _ = _; rw [hqv.2, HVX.out]
  have hrb := remJ_bd x (y 0) (sizeL x n) (sizeL x n) hy0
  generalize remJ x (y 0) (sizeL x n) (sizeL x n) = rm at *
  generalize divZ x (y 0) (sizeL x n) 0 = dz at *
  generalize sizeL x n = s at *
  clear h h' hc' hqv hyt hx HVX hy1
  generalize val x n = X at *
  go_enter Tryz.func102, Tryz.ntmps102
  go_wp2_with (first | (go_at_call_of 100 (Value.slice a n c); refine hb.mono ?_; rintro e w' ⟨rfl, rfl⟩; clear hb) | (go_at_call_of 100 (Value.slice (some ⟨b', off', none⟩) n' c'); refine hb'.mono ?_; rintro e w' ⟨rfl, rfl⟩; clear hb') | (go_at_call 105; refine ht.mono ?_; rintro e w1 ⟨rfl, rfl⟩) | (go_at_call 132; refine hd.mono ?_; rintro e w2 ⟨rfl, hO2, hU2⟩))
  obtain ⟨k, z', hkN, hNk, hvk, hsk, hbr⟩ := bare_own hO2 HDW.out (by omega) (Nat.le_refl s) (by unfold maxLen; omega) HDV.out
  go_wp2_with (go_at_call 100; refine hbr.mono ?_; rintro e w3 ⟨rfl, rfl⟩; clear hbr)
  have hN1 := num_one w2 rm (by omega)
  have hB2 := below1 w2 (.cells #[.int .u64 rm] 23)
  have hbr2 := bare_any _ 1 1 (oneW rm) _ (by omega) hN1
  have HN1 : Hid (Num (w2.alloc (.cells #[.int .u64 rm] 23)) (some ⟨w2.heap.size, 0, none⟩) (sizeL (oneW rm) 1) 1 (oneW rm)) := hN1.bare
  have HNk : Hid (Num (w2.alloc (.cells #[.int .u64 rm] 23)) (some ⟨w.heap.size, 0, none⟩) k s z') := hNk.next hB2
  have HBB : Hid (Below w.heap.size w (w2.alloc (.cells #[.int .u64 rm] 23))) := (HB.trans (hU2.below (Nat.le_refl _))).trans (hB2.mono (by rw [hU2.size]; simp))
  have HV1 : Hid (val (oneW rm) (sizeL (oneW rm) 1) = X % y 0) := by show _ = _; rw [val_bare, val_oneA, HRV.out]
  have HSS : Hid (sizeL (oneW rm) (sizeL (oneW rm) 1) = sizeL (oneW rm) 1) := sizeL_sizeL _ _
  have HLE : Hid (sizeL (oneW rm) 1 ≤ 1) := sizeL_le _ _
  generalize sizeL (oneW rm) 1 = k1 at *
  clear hN1 hB2 hNk hO2 hU2 HB
  go_wp2_with (go_at_call 100; refine hbr2.mono ?_; rintro e w4 ⟨rfl, rfl⟩; clear hbr2)
  go_ret3
  exact ⟨_, k, s, z', _, k1, 1, oneW rm, rfl, by omega, by have := HLE.out; omega, HNk.out, HN1.out, hvk, HV1.out, hsk, HSS.out, HBB.out⟩
set_option maxHeartbeats 1000000 in
theorem ndiv_long (a a' : Option Addr) (n c n' c' : Nat) (x y : Nat → Int) (w : World) (hn : n < 4000000000) (hn' : n' < 4000000000) (h : Num w a n c x) (h' : Num w a' n' c' y) (hs : sizeL x n ≤ 2000) (hs' : 2 ≤ sizeL y n') (hlt : sizeL y n' ≤ sizeL x n) :
    Calls Tryz.prog 102 #[.slice a n c, .slice a' n' c'] w (DivOut n n' (val x n) (val y n') w) := by
  have hb := bare_any a n c x w (by omega) h
  have hb' := bare_any a' n' c' y w (by omega) h'
  have hle := sizeL_le x n
  have hle' := sizeL_le y n'
  have hd := divideLong_any a a' (sizeL x n) c (sizeL y n') c' x y w hs hs' hlt h.bare h'.bare (sizeL_sizeL y n')
  rw [val_bare, val_bare] at hd
  have hlti : ¬ (sizeL x n : Int) < sizeL y n' := by omega
  have hltn : ¬ sizeL x n < sizeL y n' := by omega
  have hsi : (sizeL x n : Int) ≤ 2000 := by omega
  have hsi' : (sizeL y n' : Int) ≤ 2000 := by omega
  have hne : ((sizeL y n' : Int) == 0) = false := by simp; omega
  have hne1 : ((sizeL y n' : Int) == 1) = false := by simp; omega
  generalize sizeL x n = s at *
  generalize sizeL y n' = s' at *
  clear h h'
  generalize val x n = X at *
  generalize val y n' = Y at *
  go_enter Tryz.func102, Tryz.ntmps102
  go_wp2_with (first | (go_at_call_of 100 (Value.slice a n c); refine hb.mono ?_; rintro e w' ⟨rfl, rfl⟩; clear hb) | (go_at_call_of 100 (Value.slice a' n' c'); refine hb'.mono ?_; rintro e w' ⟨rfl, rfl⟩; clear hb') | (go_at_call 133; refine hd.mono ?_; rintro e w2 ⟨gq, gr, q, z, rfl, hQ, hqw, hqv, hR, hzw, hzv, hB⟩))
  obtain ⟨k, z', hkN, hNk, hvk, hsk, hbr⟩ := bare_own hQ hqw (by omega) (Nat.le_refl _) (by unfold maxLen; omega) hqv
  obtain ⟨k2, z2, hkN2, hNk2, hvk2, hsk2, hbr2⟩ := bare_own hR hzw (by omega) (Nat.le_refl _) (by unfold maxLen; omega) hzv
  have HNk : Hid (Num w2 (some ⟨gq, 0, none⟩) k (s - s' + 1) z') := hNk
  have HNk2 : Hid (Num w2 (some ⟨gr, 0, none⟩) k2 s' z2) := hNk2
  clear hQ hR hNk hNk2
  go_wp2_with (go_at_call 100; refine hbr.mono ?_; rintro e w3 ⟨rfl, rfl⟩; clear hbr)
  go_wp2_with (go_at_call 100; refine hbr2.mono ?_; rintro e w4 ⟨rfl, rfl⟩; clear hbr2)
  go_ret3
  exact ⟨_, k, _, z', _, k2, _, z2, rfl, by omega, by omega, HNk.out, HNk2.out, hvk, hvk2, hsk, hsk2, hB⟩
theorem ndiv_any (a a' : Option Addr) (n c n' c' : Nat) (x y : Nat → Int) (w : World) (hn : n < 4000000000) (hn' : n' < 4000000000) (h : Num w a n c x) (h' : Num w a' n' c' y) (hs : sizeL x n ≤ 2000) (hs' : sizeL y n' ≤ 2000) (hy : 0 < sizeL y n') :
    Calls Tryz.prog 102 #[.slice a n c, .slice a' n' c'] w (DivOut n n' (val x n) (val y n') w) := by
  by_cases h1 : sizeL x n < sizeL y n'
  · exact ndiv_less a a' n c n' c' x y w hn hn' h h' hs hs' h1
  · by_cases h2 : sizeL y n' = 1
    · exact ndiv_one a a' n c n' c' x y w hn hn' h h' hs h2 (by omega)
    · exact ndiv_long a a' n c n' c' x y w hn hn' h h' hs (by omega) (by omega)
end
section
attribute [local go_sem] setCell_drewN alloc_drewN

theorem owns_base {w : World} {base g k cap : Nat} {xs : List Value} (h : w.ownsRow base 23 1 (.slice (some ⟨g, 0, none⟩) k cap) k xs) : base ≤ g := by
  obtain ⟨hl, h⟩ := h
  rcases h with ⟨h, _⟩ | ⟨g', cap', cur, he, hb, _⟩
  · cases h
  · cases he; exact hb

set_option maxHeartbeats 1000000 in
theorem ftrim_some (b off n c : Nat) (x : Nat → Int) (w : World) (hn : n < 4294967296) (h : Num w (some ⟨b, off, none⟩) n c x) :
    Calls Tryz.prog 18 #[.slice (some ⟨b, off, none⟩) n c] w fun e w' => ∃ g cap, e = .returned (.slice (some ⟨g, 0, none⟩) (sizeL x n) cap) ∧ Num w' (some ⟨g, 0, none⟩) (sizeL x n) cap x ∧ Below w.heap.size w w' ∧ w.heap.size ≤ g := by
  obtain ⟨h1, h2, h3, h4, h5⟩ := h
  have hc : b < w.heap.size ∧ ∀ i, i < n → w.cell? ⟨b, off + i, none⟩ = some (.int .u64 (x i)) := by
    rcases h5 with ⟨h, _⟩ | ⟨b', off', h, hbs, hc⟩
    · cases h
    · cases h; exact ⟨hbs, hc⟩
  obtain ⟨hbs, hc⟩ := hc
  clear h5
  obtain ⟨i0, hi, hz0, hz1, hz2⟩ := info_parts Tryz.info23
  unfold maxLen at h2
  go_enter Tryz.func18, Tryz.ntmps18
  go_wp2
  go_loop [3] (fun t => ∃ k : Nat, k ≤ n ∧ sizeL x k = sizeL x n ∧ (∀ i, k ≤ i → x i = 0) ∧ t = .int .i64 k) (fun t => (intOf t).toNat)
  case atStart => exact ⟨n, Nat.le_refl _, rfl, h4, rfl⟩
  case round =>
    obtain ⟨k, hk, hs, hz, rfl⟩ := hrel
    clear h4
    by_cases h0 : k = 0
    · subst h0
      have HS : Hid (sizeL x n = 0) := hs.symm
      have HN : Hid (Num (w.alloc (.cells #[] 23)) (some ⟨w.heap.size, 0, none⟩) 0 0 x) := ⟨Nat.le_refl _, by unfold maxLen; omega, h3, hz, Or.inr ⟨w.heap.size, 0, rfl, by simp, fun i hi => by omega⟩⟩
      clear hs hz hc h3
      go_wp2
      go_ret
      refine ⟨w.heap.size, 0, ?_, ?_, (Below.refl _ _).alloc (Nat.le_refl _) _, Nat.le_refl _⟩
      · rw [HS.out]; rfl
      · rw [HS.out]; exact HN.out
    · obtain ⟨j, rfl⟩ : ∃ j, k = j + 1 := ⟨k - 1, by omega⟩
      have hcj := hc j (by omega)
      by_cases hzj : x j = 0
      · have HS : Hid (sizeL x j = sizeL x n) := by
          have : sizeL x (j + 1) = sizeL x j := by simp [sizeL, hzj]
          exact this.symm.trans hs
        have HZ : Hid (∀ i, j ≤ i → x i = 0) := fun i hji => by
          by_cases e : i = j
          · rw [e]; exact hzj
          · exact hz i (by omega)
        clear hs hz hc
        go_wp2
        go_round
        case rel => exact ⟨j, by omega, HS.out, HZ.out, by go_num⟩
        case measure => simp [intOf]
      · have HS : Hid (sizeL x n = j + 1) := by
          have : sizeL x (j + 1) = j + 1 := by simp [sizeL, hzj]
          exact hs.symm.trans this
        have HZ : Hid (∀ i, j + 1 ≤ i → x i = 0) := hz
        have HC : Hid (∀ i, i < n → w.cell? ⟨b, off + i, none⟩ = some (.int .u64 (x i))) := hc
        clear hs hz hc
        have HOWN : (w.alloc (.cells #[] 23)).ownsRow w.heap.size 23 1 (.slice (some ⟨w.heap.size, 0, none⟩) 0 0) 0 [] :=
          ⟨rfl, Or.inr ⟨w.heap.size, 0, #[], rfl, Nat.le_refl _, (MapKept.heap_alloc w _).1, Nat.le_refl _, by unfold maxLen; omega, rfl, rfl⟩⟩
        have HNEWS : ∀ (q : Nat) (u : Value), ((List.range (j + 1)).map fun i => Value.int .u64 (x i))[q]? = some u → (w.alloc (.cells #[] 23)).cell? ((⟨b, off, none⟩ : Addr).add q) = some u := by
          intro q u hq
          have hql : q < j + 1 := by
            rcases Nat.lt_or_ge q (j + 1) with h | h
            · exact h
            · rw [List.getElem?_eq_none (by simpa using h)] at hq; cases hq
          have e2 : u = .int .u64 (x q) := by simpa [hql] using hq.symm
          rw [e2]
          have ea : (⟨b, off, none⟩ : Addr).add q = ⟨b, off + q, none⟩ := by simp [Addr.add]
          rw [ea]
          exact (((Below.refl w.heap.size w).alloc (Nat.le_refl _) _).cell (p := ⟨b, off + q, none⟩) hbs).trans (HC.out q (by omega))
        have HONE : ∀ u ∈ ((List.range (j + 1)).map fun i => Value.int .u64 (x i)), u.oneCell' = true := by
          intro u hu
          obtain ⟨q, _, rfl⟩ := List.mem_map.1 hu
          rfl
        go_wp2_with (at_builtin; refine wpList_append_lies _ rfl (.tmp 18) (.tmp 21) 30 rfl w.heap.size 23 i0 (.int .u64 0) 1 8 Tryz.underlying30 hi hz0 hz1 hz2 rfl (by decide) (.slice (some ⟨w.heap.size, 0, none⟩) 0 0) 0 [] rfl HOWN ⟨b, off, none⟩ (j + 1) c ((List.range (j + 1)).map fun i => Value.int .u64 (x i)) rfl (by simp) HNEWS HONE (by omega) (by unfold maxLen; omega) (by omega) (by simp) (w.heap.size + 1) (by simp) ?_; intro g cap w1 hown hgrow hat hlt; clear HOWN HNEWS HONE)
        have hown' : w1.ownsRow w.heap.size 23 1 (.slice (some ⟨g, 0, none⟩) (j + 1) cap) (j + 1) ((List.range (j + 1)).map fun i => Value.int .u64 (x i)) := by
          have e0 : 0 + (j + 1) = j + 1 := by omega
          rw [e0] at hown
          simpa using hown
        have HN := num_of_owns (w := w) h3 HZ.out hown' hlt
        have HFG : w.heap.size ≤ g := owns_base hown'
        have HB : Below w.heap.size w w1 := ((Below.refl _ _).alloc (Nat.le_refl _) _).grown hgrow (by simp) (by intro k hk; cases hk; exact Nat.le_refl _)
        clear hown hown' hgrow
        go_wp2
        go_ret
        refine ⟨g, cap, ?_, ?_, HB, HFG⟩
        · rw [HS.out]; simp
        · rw [HS.out]; exact HN

set_option maxHeartbeats 400000 in
theorem ftrim_nil (x : Nat → Int) (w : World) (hx : ∀ i, x i = 0) :
    Calls Tryz.prog 18 #[.slice none 0 0] w fun e w' => ∃ g cap, e = .returned (.slice (some ⟨g, 0, none⟩) 0 cap) ∧ Num w' (some ⟨g, 0, none⟩) 0 cap x ∧ Below w.heap.size w w' ∧ w.heap.size ≤ g := by
  go_enter Tryz.func18, Tryz.ntmps18
  go_wp2
  go_loop [3] (fun t => t = .int .i64 0) (fun t => (intOf t).toNat)
  case atStart => rfl
  case round =>
    subst hrel
    go_wp2
    go_ret
    refine ⟨w.heap.size, 0, rfl, ?_, (Below.refl _ _).alloc (Nat.le_refl _) _, Nat.le_refl _⟩
    exact ⟨Nat.le_refl _, by unfold maxLen; omega, fun i => by rw [hx i]; decide, fun i _ => hx i, Or.inr ⟨w.heap.size, 0, rfl, by simp, fun i hi => by omega⟩⟩
theorem ftrim_any (a : Option Addr) (n c : Nat) (x : Nat → Int) (w : World) (hn : n < 4294967296) (h : Num w a n c x) :
    Calls Tryz.prog 18 #[.slice a n c] w fun e w' => ∃ g cap, e = .returned (.slice (some ⟨g, 0, none⟩) (sizeL x n) cap) ∧ Num w' (some ⟨g, 0, none⟩) (sizeL x n) cap x ∧ Below w.heap.size w w' ∧ w.heap.size ≤ g := by
  have h' := h
  obtain ⟨h1, h2, h3, h4, h5⟩ := h'
  rcases h5 with ⟨rfl, rfl⟩ | ⟨b, off, rfl, _, _⟩
  · obtain rfl : n = 0 := by omega
    exact ftrim_nil x w (fun i => h4 i (Nat.zero_le _))
  · exact ftrim_some b off n c x w hn h
set_option maxHeartbeats 1000000 in
theorem frless_any (a a' : Option Addr) (n c n' c' : Nat) (x y : Nat → Int) (w : World) (hn : n < 4294967290) (hn' : n' < 4294967290) (h : Num w a n c x) (h' : Num w a' n' c' y) :
    Calls Tryz.prog 75 #[.slice a n c, .slice a' n' c'] w fun e w' => ∃ g k cap, e = .returned (.slice (some ⟨g, 0, none⟩) k cap) ∧ k ≤ max n n' ∧ Num w' (some ⟨g, 0, none⟩) k cap (difZ x y (max n n')) ∧ Below w.heap.size w w' ∧ w.heap.size ≤ g ∧ sizeL (difZ x y (max n n')) k = k := by
  have hx := h.2.2.1
  have hy := h'.2.2.1
  have zx := h.2.2.2.1
  have zy := h'.2.2.2.1
  obtain ⟨M, hM⟩ : ∃ M, max n n' = M := ⟨_, rfl⟩
  have hMi : max (n : Int) n' = (M : Int) := by omega
  have hMb : M < 4294967292 := by omega
  have hmk := fun w => make_any (max (n : Int) n') M hMi (by omega) w
  have hfin : ∀ (ss : Array Value), ss.size = M → (∀ j h, ss[j]'h = Value.int .u64 (difW x y j)) → Num (w.alloc (.cells ss 23)) (some ⟨w.heap.size, 0, none⟩) M M (difZ x y (max n n')) := fun ss h1 h2 => num_of_block (by omega) (difZ_words x y _) (fun i hi => by unfold difZ; rw [if_neg (by omega)]) h1 (fun j hj => by rw [h2 j hj]; unfold difZ; rw [if_pos (by omega)])
  have hw1 := fun (i : Nat) (ss : Array Value) => word_any a n c i x (w.alloc (.cells ss 23)) (h.next (below1 w _))
  have hw2 := fun (i : Nat) (ss : Array Value) => word_any a' n' c' i y (w.alloc (.cells ss 23)) (h'.next (below1 w _))
  have HM : Hid (max n n' = M) := hM
  have HZ : Hid ((arrOf (fun _ => 0) M).size = M ∧ ∀ j h, (arrOf (fun _ => 0) M)[j]'h = Value.int .u64 0) := ⟨arrOf_size _ _, fun j h => arrOf_get _ _ _ _⟩
  clear h h' zx zy hM hMi
  generalize arrOf (fun _ => 0) M = zz at *
  go_enter Tryz.func75, Tryz.ntmps75
  go_wp2
  go_loopw [6, 7, 16, 19] (fun c u7 i u20 wr => ∃ (k : Nat) (ss : Array Value), k ≤ M ∧ i = .int .i64 k ∧ c = .int .u64 (borW x y k) ∧ ss.size = M ∧ (∀ j h, ss[j]'h = Value.int .u64 (if j < k then difW x y j else 0)) ∧ wr = w.alloc (.cells ss 23)) (fun _ _ i _ _ => M - (intOf i).toNat)
  case atStart => exact ⟨0, zz, Nat.zero_le _, rfl, rfl, HZ.out.1, fun j h => by rw [HZ.out.2 j h]; simp, rfl⟩
  case round =>
    obtain ⟨k, ss, hk, rfl, rfl, hsz, hss, rfl⟩ := hrel
    have hcar := borW_01 x y k
    by_cases h8 : k < M
    · have h8i : (k : Int) < M := by omega
      have h8s : k < ss.size := by omega
      have bx := hx k
      have b_y := hy k
      have hsk : ss[k]? = some (.int .u64 0) := by rw [Array.getElem?_eq_getElem h8s, hss k h8s, if_neg (by omega)]
      have hadd := fun w => sub64 (x k) (y k) (borW x y k) bx.1 b_y.1 (by omega) hcar.1 hcar.2 w
      have hwa := hw1 k ss
      have hwb := hw2 k ss
      have HR : Hid (∀ (i : Nat) (h : i < (ss.setIfInBounds k (.int .u64 (difW x y k))).size), (ss.setIfInBounds k (.int .u64 (difW x y k)))[i]'h = Value.int .u64 (if i < k + 1 then difW x y i else 0)) := set_next hss
      clear hss hw1 hw2 hfin hmk hx hy
      go_wp2_with (first | (go_at_call_of 20 (Value.slice a n c); refine hwa.mono ?_; rintro e w' ⟨rfl, rfl⟩) | (go_at_call_of 20 (Value.slice a' n' c'); refine hwb.mono ?_; rintro e w' ⟨rfl, rfl⟩))
      go_roundw
      case rel => exact ⟨k + 1, ss.setIfInBounds k (.int .u64 (difW x y k)), by omega, by go_num, rfl, by simp [hsz], HR.out, rfl⟩
      case measure => simp [intOf]; omega
    · obtain rfl : k = M := by omega
      have hss' : ∀ j h, ss[j]'h = Value.int .u64 (difW x y j) := by
        intro j h; rw [hss j h, if_pos (by omega)]
      have hT := ftrim_any _ _ _ _ _ (by omega) (hfin ss hsz hss')
      have hle := sizeL_le (difZ x y (max n n')) k
      clear hss hss' hw1 hw2 hfin hmk hx hy
      go_wp2_with (go_at_call 18; refine hT.mono ?_; rintro e w1 ⟨g, cap, rfl, hN, hB, hfg⟩)
      go_ret
      exact ⟨g, _, cap, rfl, Nat.le_trans hle (Nat.le_of_eq HM.out.symm), hN, (below1 w _).trans (hB.mono (by simp)), by simp at hfg; omega, sizeL_sizeL _ _⟩
set_option maxHeartbeats 1000000 in
theorem frgt_p (b off n c q r : Nat) (s : Int) (x : Nat → Int) (w : World) (hn : n < 4000000000) (hq0 : q < 100000) (hr0 : r < 64) (hrp : 0 < r) (hq : s / 64 = q) (hr : s % 64 = r) (hs : 0 ≤ s) (hqn : q < n) (h : Num w (some ⟨b, off, none⟩) n c x) :
    Calls Tryz.prog 34 #[.slice (some ⟨b, off, none⟩) n c, .int .i64 s] w fun e w' => ∃ g k cap, e = .returned (.tuple #[.slice (some ⟨g, 0, none⟩) k cap, .bool (goneB x q r)]) ∧ k ≤ n ∧ Num w' (some ⟨g, 0, none⟩) k cap (shrW x q r) ∧ Below w.heap.size w w' ∧ w.heap.size ≤ g := by
  have hx := h.2.2.1
  have zx := h.2.2.2.1
  have hc : b < w.heap.size ∧ ∀ i, i < n → w.cell? ⟨b, off + i, none⟩ = some (.int .u64 (x i)) := by
    rcases h.2.2.2.2 with ⟨h, _⟩ | ⟨b', off', h, hbs, hc⟩
    · cases h
    · cases h; exact ⟨hbs, hc⟩
  obtain ⟨hbs, hc⟩ := hc
  have hcap := h.1
  have hs6 : s < 6400064 := by omega
  obtain ⟨i0, hi, hz0, hz1, hz2⟩ := info_parts Tryz.info23
  have HX : Hid (Num w (some ⟨b, off, none⟩) n c x) := h
  clear h
  go_enter Tryz.func34, Tryz.ntmps34
  go_wp2
  go_loop [6, 7, 13] (fun g u7 i => ∃ (k : Nat), k ≤ n ∧ i = .int .i64 k ∧ g = .bool (goneK x q r k)) (fun _ _ i => n - (intOf i).toNat)
  case atStart => exact ⟨0, Nat.zero_le _, rfl, by rw [goneK_zero]⟩
  case round =>
    obtain ⟨k, hk, rfl, rfl⟩ := hrel
    by_cases h8 : k < n
    · have h8i : (k : Int) < n := by omega
      by_cases hkq : k < q
      · have bx := hx k
        have hcx := hc k h8
        clear hc hx zx hi hz0 hz1 hz2
        have hkq' : (k : Int) < q := by omega
        by_cases hz : x k = 0
        · have hz' : (x k != 0) = false := by simp [hz]
          have hne : ((k : Int) == q) = false := by simp; omega
          have HG : Hid (goneK x q r (k + 1) = goneK x q r k) := goneK_lt0 hkq hz
          generalize goneK x q r k = z at *
          go_wp2
          go_round
          case rel => exact ⟨k + 1, by omega, by go_num, by rw [HG.out]⟩
          case measure => simp [intOf]; omega
        · have hz' : (x k != 0) = true := by simp [hz]
          have HG : Hid (goneK x q r (k + 1) = true) := goneK_lt1 hkq hz
          generalize goneK x q r k = z at *
          go_wp2
          go_round
          case rel => exact ⟨k + 1, by omega, by go_num, by rw [HG.out]⟩
          case measure => simp [intOf]; omega
      · have hkq' : ¬ (k : Int) < q := by omega
        by_cases hke : k = q
        · subst hke
          have bx := hx k
          have hcx := hc k h8
          have hand := and_mask bx hr0
          have hpp := p2_pos r
          have hpl := p2_le hr0
          have HG : Hid (goneK x k r (k + 1) = (goneK x k r k || decide (x k % 2 ^ r ≠ 0))) := goneK_eq x k r
          clear hc hx zx hi hz0 hz1 hz2
          by_cases hm : x k % 2 ^ r = 0
          · rw [hm] at hand
            generalize goneK x k r k = z at *
            skip
            go_wp2
            go_round
            case rel => exact ⟨k + 1, by omega, by go_num, by rw [HG.out]; simp [hm]⟩
            case measure => simp [intOf]; omega
          · have hm' : (x k % 2 ^ r != 0) = true := by simp [hm]
            generalize goneK x k r k = z at *
            skip
            go_wp2
            go_round
            case rel => exact ⟨k + 1, by omega, by go_num, by rw [HG.out]; simp [hm]⟩
            case measure => simp [intOf]; omega
        · have hcx := hc k h8
          have HG : Hid (goneK x q r (k + 1) = goneK x q r k) := goneK_gt (by omega)
          generalize goneK x q r k = z at *
          clear hc hx zx hi hz0 hz1 hz2
          have hne : ((k : Int) == q) = false := by simp; omega
          go_wp2
          go_round
          case rel => exact ⟨k + 1, by omega, by go_num, by rw [HG.out]⟩
          case measure => simp [intOf]; omega
    · obtain rfl : k = n := by omega
      have HGB : Hid (goneK x q r k = goneB x q r) := goneK_end hqn
      generalize goneK x q r k = gz at *
      go_wp2
      go_loopw [8, 9, 10] (fun v i u10 wr => ∃ (j : Nat) (ao : Option Addr) (cp : Nat), j ≤ k - q ∧ i = .int .i64 ((q : Int) + j) ∧ v = .slice ao j cp ∧ wr.ownsRow w.heap.size 23 1 (.slice ao j cp) j (wl (shrW x q r) j) ∧ Below w.heap.size w wr) (fun _ i _ _ => k + 1 - (intOf i).toNat)
      case atStart => exact ⟨0, none, 0, Nat.zero_le _, by go_num, rfl, World.ownsRow_nil _ _ _ _, Below.refl _ _⟩
      case round =>
        obtain ⟨j, ao, cp, hj, rfl, rfl, hown, hB⟩ := hrel
        by_cases hlt : q + j < k
        · have hlt' : (q : Int) + j < k := by omega
          have bx := hx (q + j)
          have b_y := hx (q + j + 1)
          have e1 : ((q : Int) + j).toNat = q + j := by omega
          have hcx : wr.cell? ⟨b, off + (q + j), none⟩ = some (.int .u64 (x (q + j))) := (hB.cell (p := ⟨b, off + (q + j), none⟩) hbs).trans (hc (q + j) hlt)
          have HW : Hid (Calls Tryz.prog 20 #[.slice (some ⟨b, off, none⟩) k c, .int .i64 ((q : Int) + j + 1)] wr fun e w' => e = .returned (.int .u64 (x (q + j + 1))) ∧ wr = w') := by
            have := word_any (some ⟨b, off, none⟩) k c (q + j + 1) x wr (HX.out.next hB)
            rw [show ((q + j + 1 : Nat) : Int) = (q : Int) + j + 1 by omega] at this
            exact this.mono fun _ _ h => ⟨h.1, h.2.symm⟩
          have hbw := hB.size
          have HO : Hid (wr.ownsRow w.heap.size 23 1 (.slice ao j cp) j (wl (shrW x q r) j)) := hown
          have HVAL : Hid (shrW x q r j = bits BinOp.or IntKind.u64 (x (q + j) / 2 ^ r) (IntKind.u64.wrap (x (q + j + 1) * 2 ^ (64 - r)))) := by show _ = _; unfold shrW; rw [if_neg (by omega)]; rfl
          have HOWN : (wr.alloc (.cells #[.int .u64 (bits BinOp.or IntKind.u64 (x (q + j) / 2 ^ r) (IntKind.u64.wrap (x (q + j + 1) * 2 ^ (64 - r))))] 23)).ownsRow w.heap.size 23 1 (.slice ao j cp) j (wl (shrW x q r) j) := hown.alloc _
          have HNEWS : ∀ (p : Nat) (u : Value), [Value.int .u64 (bits BinOp.or IntKind.u64 (x (q + j) / 2 ^ r) (IntKind.u64.wrap (x (q + j + 1) * 2 ^ (64 - r))))][p]? = some u → (wr.alloc (.cells #[.int .u64 (bits BinOp.or IntKind.u64 (x (q + j) / 2 ^ r) (IntKind.u64.wrap (x (q + j + 1) * 2 ^ (64 - r))))] 23)).cell? ((⟨wr.heap.size, 0, none⟩ : Addr).add p) = some u := by
            intro p u hp
            match p, hp with
            | 0, hp => simp at hp; subst hp; simp [Addr.add]
          have HONE : ∀ u ∈ [Value.int .u64 (bits BinOp.or IntKind.u64 (x (q + j) / 2 ^ r) (IntKind.u64.wrap (x (q + j + 1) * 2 ^ (64 - r))))], u.oneCell' = true := by
            intro u hu; simp at hu; subst hu; rfl
          clear hc hx zx hown
          go_wp2_with (first | (at_builtin; refine wpList_append_lies _ rfl (.tmp 77) (.tmp 79) 30 rfl w.heap.size 23 i0 (.int .u64 0) 1 8 Tryz.underlying30 hi hz0 hz1 hz2 rfl (by decide) (.slice ao j cp) j (wl (shrW x q r) j) rfl HOWN ⟨wr.heap.size, 0, none⟩ 1 1 [Value.int .u64 (bits BinOp.or IntKind.u64 (x (q + j) / 2 ^ r) (IntKind.u64.wrap (x (q + j + 1) * 2 ^ (64 - r))))] rfl rfl HNEWS HONE (by omega) (by unfold maxLen; omega) (by omega) (by simp; omega) (wr.heap.size + 1) (by simp) ?_; intro g cap w1 hown1 hgrow hat hlt1; clear HOWN HNEWS HONE) | (go_at_call 20; refine HW.out.mono ?_; rintro e w' ⟨rfl, rfl⟩))
          have hown2 : w1.ownsRow w.heap.size 23 1 (.slice (some ⟨g, 0, none⟩) (j + 1) cap) (j + 1) (wl (shrW x q r) (j + 1)) := by
            rw [← HVAL.out, wl_succ] at hown1; exact hown1
          have HB2 : Below w.heap.size w w1 := (hB.alloc hbw _).grown hgrow (by simp; omega) (by
            intro p hp
            rcases ao with _ | ⟨bb, oo, sp⟩
            · cases hp
            · cases hp
              obtain ⟨_, h1⟩ := HO.out
              rcases h1 with ⟨h1, _⟩ | ⟨g', _, _, h1, h2, _⟩
              · cases h1
              · cases h1; exact h2)
          clear hown1 hgrow
          go_wp2
          go_roundw
          case rel => exact ⟨j + 1, some ⟨g, 0, none⟩, cap, by omega, by go_num, rfl, hown2, HB2⟩
          case measure => simp [intOf]; omega
        · have HZ : ∀ i, j ≤ i → shrW x q r i = 0 := fun i hi => shrW_zero zx q r i (by omega)
          have hT := ftrim_any ao j cp _ wr (by omega) (num_of_owns' (shrW_words hx q r) HZ hown)
          have hle := sizeL_le (shrW x q r) j
          have hlt' : ¬ (q : Int) + j < k := by omega
          clear hc hx zx hown HZ
          go_wp2_with (go_at_call 18; refine hT.mono ?_; rintro e w1 ⟨g, cap, rfl, hN, hB1, hfg⟩)
          go_ret2
          exact ⟨g, _, cap, by rw [HGB.out]; rfl, by omega, hN, hB.trans (hB1.mono hB.size), Nat.le_trans hB.size hfg⟩
set_option maxHeartbeats 1000000 in
theorem fleft_z (b off n c q : Nat) (s : Int) (x : Nat → Int) (w : World) (hn : n < 4000000000) (hq0 : q < 100000)  (hq : s / 64 = q) (hr : s % 64 = 0) (hs : 0 ≤ s) (h : Num w (some ⟨b, off, none⟩) n c x) :
    Calls Tryz.prog 71 #[.slice (some ⟨b, off, none⟩) n c, .int .i64 s] w fun e w' => ∃ g k cap, e = .returned (.slice (some ⟨g, 0, none⟩) k cap) ∧ k ≤ n + q + 1 ∧ Num w' (some ⟨g, 0, none⟩) k cap (finL x q 0) ∧ Below w.heap.size w w' ∧ w.heap.size ≤ g ∧ sizeL (finL x q 0) k = k := by
  have hx := h.2.2.1
  have zx := h.2.2.2.1
  have hc : b < w.heap.size ∧ ∀ i, i < n → w.cell? ⟨b, off + i, none⟩ = some (.int .u64 (x i)) := by
    rcases h.2.2.2.2 with ⟨h, _⟩ | ⟨b', off', h, hbs, hc⟩
    · cases h
    · cases h; exact ⟨hbs, hc⟩
  obtain ⟨hbs, hc⟩ := hc
  have hcap := h.1
  have hs6 : s < 6400064 := by omega
  obtain ⟨M, hM⟩ : ∃ M, n + q + 1 = M := ⟨_, rfl⟩
  have hMi : (n : Int) + q + 1 = (M : Int) := by omega
  have hmk := fun w => make_any ((n : Int) + q + 1) M hMi (by omega) w
  have hfin : ∀ (ss : Array Value) (m : Nat), ss.size = M → (∀ j h, ss[j]'h = Value.int .u64 (stL x q 0 n j)) → Num ((w.alloc (.cells ss 23)).drewN m) (some ⟨w.heap.size, 0, none⟩) M M (finL x q 0) := fun ss m h1 h2 => (num_of_block (by omega) (finL_words hx q 0) (fun i hi => finL_zero hx zx q 0 (by omega) i (by omega)) h1 (fun j hj => by rw [h2 j hj, stL_end hx zx q 0 j (by omega)])).drewN m
  have HM : Hid (n + q + 1 = M) := hM
  have HZ : Hid ((arrOf (fun _ => 0) M).size = M ∧ ∀ j h, (arrOf (fun _ => 0) M)[j]'h = Value.int .u64 0) := ⟨arrOf_size _ _, fun j h => arrOf_get _ _ _ _⟩
  have hcw : ∀ (ss : Array Value) i, i < n → (w.alloc (.cells ss 23)).cell? ⟨b, off + i, none⟩ = some (.int .u64 (x i)) := fun ss i hi => ((below1 w _).cell (p := ⟨b, off + i, none⟩) hbs).trans (hc i hi)
  clear h zx hMi hc
  generalize arrOf (fun _ => 0) M = zz at *
  go_enter Tryz.func71, Tryz.ntmps71
  go_wp2
  go_loopw [6, 16] (fun u6 i wr => ∃ (k m : Nat) (ss : Array Value), k ≤ n ∧ i = .int .i64 k ∧ ss.size = M ∧ (∀ j h, ss[j]'h = Value.int .u64 (stL x q 0 k j)) ∧ wr = (w.alloc (.cells ss 23)).drewN m) (fun _ i _ => n - (intOf i).toNat)
  case atStart => exact ⟨0, 0, zz, Nat.zero_le _, rfl, HZ.out.1, fun j h => by rw [HZ.out.2 j h]; unfold stL; (by_cases e : j < q + 0); (rw [if_pos e]; unfold finL; rw [if_neg (by omega)]); (rw [if_neg e]; split; (unfold lowp; rw [if_neg (by omega)]); rfl), rfl⟩
  case round =>
    obtain ⟨k, m, ss, hk, rfl, hsz, hss, rfl⟩ := hrel
    by_cases h8 : k < n
    · have h8i : (k : Int) < n := by omega
      have h8s : k + q < ss.size := by omega
      have h8t : (k : Int) + q < M := by omega
      have h8u : (k : Int) + q + 1 < M := by omega
      have bx := hx k
      have hcx := hcw ss k h8
      have hsk : ss[k + q]? = some (.int .u64 (lowp x q 0 (q + k))) := by rw [Array.getElem?_eq_getElem h8s, hss _ h8s]; unfold stL; rw [if_neg (by omega), if_pos (by omega), Nat.add_comm]
      have hgo : ∀ h, ss[k + q]'h = .int .u64 (lowp x q 0 (q + k)) := fun h => by rw [hss _ h]; unfold stL; rw [if_neg (by omega), if_pos (by omega), Nat.add_comm]
      have hlow := lowp_word hx q 0 (q + k)
      have e1 : ((k : Int) + q).toNat = k + q := by omega
      have e2 : ((k : Int) + q + 1).toNat = k + q + 1 := by omega
      have HF : Hid (finL x q 0 (q + k) = bits BinOp.or IntKind.u64 (lowp x q 0 (q + k)) (x k)) := by
        show _ = _; unfold finL; rw [if_pos (by omega), show q + k - q = k by omega]; simp [orW, wrap_id _ bx]
      have HR : Hid (∀ (i : Nat) (h : i < (ss.setIfInBounds (k + q) (.int .u64 (finL x q 0 (q + k)))).size), (ss.setIfInBounds (k + q) (.int .u64 (finL x q 0 (q + k))))[i]'h = Value.int .u64 (stL x q 0 (k + 1) i)) := stL_step0 hss
      clear hss hfin hmk hx
      generalize hlo : lowp x q 0 (q + k) = lo at *
      clear hcw
      go_wp2
      go_region
      go_wp2
      go_roundw
      case rel => refine ⟨k + 1, m + 1, ss.setIfInBounds (k + q) (.int .u64 (finL x q 0 (q + k))), by omega, by go_num, by simp [hsz], HR.out, ?_⟩; rw [HF.out]
      case measure => simp [intOf]; omega
    · obtain rfl : k = n := by omega
      have hT := ftrim_any _ _ _ _ _ (by omega) (hfin ss m hsz hss)
      have hle := sizeL_le (finL x q 0) M
      clear hss hfin hmk hx hcw
      go_wp2_with (go_at_call 18; refine hT.mono ?_; rintro e w1 ⟨g, cap, rfl, hN, hB, hfg⟩)
      go_ret
      exact ⟨g, _, cap, rfl, Nat.le_trans hle (Nat.le_of_eq HM.out.symm), hN, (below_drewN (below1 w _) m).trans (hB.mono (by simp)), by simp at hfg; omega, sizeL_sizeL _ _⟩

set_option maxHeartbeats 1000000 in
theorem fleft_p (b off n c q r : Nat) (s : Int) (x : Nat → Int) (w : World) (hn : n < 4000000000) (hq0 : q < 100000) (hr0 : r < 64) (hrp : 0 < r) (hq : s / 64 = q) (hr : s % 64 = r) (hs : 0 ≤ s) (h : Num w (some ⟨b, off, none⟩) n c x) :
    Calls Tryz.prog 71 #[.slice (some ⟨b, off, none⟩) n c, .int .i64 s] w fun e w' => ∃ g k cap, e = .returned (.slice (some ⟨g, 0, none⟩) k cap) ∧ k ≤ n + q + 1 ∧ Num w' (some ⟨g, 0, none⟩) k cap (finL x q r) ∧ Below w.heap.size w w' ∧ w.heap.size ≤ g ∧ sizeL (finL x q r) k = k := by
  have hx := h.2.2.1
  have zx := h.2.2.2.1
  have hc : b < w.heap.size ∧ ∀ i, i < n → w.cell? ⟨b, off + i, none⟩ = some (.int .u64 (x i)) := by
    rcases h.2.2.2.2 with ⟨h, _⟩ | ⟨b', off', h, hbs, hc⟩
    · cases h
    · cases h; exact ⟨hbs, hc⟩
  obtain ⟨hbs, hc⟩ := hc
  have hcap := h.1
  have hs6 : s < 6400064 := by omega
  obtain ⟨M, hM⟩ : ∃ M, n + q + 1 = M := ⟨_, rfl⟩
  have hMi : (n : Int) + q + 1 = (M : Int) := by omega
  have hmk := fun w => make_any ((n : Int) + q + 1) M hMi (by omega) w
  have hfin : ∀ (ss : Array Value) (m : Nat), ss.size = M → (∀ j h, ss[j]'h = Value.int .u64 (stL x q r n j)) → Num ((w.alloc (.cells ss 23)).drewN m) (some ⟨w.heap.size, 0, none⟩) M M (finL x q r) := fun ss m h1 h2 => (num_of_block (by omega) (finL_words hx q r) (fun i hi => finL_zero hx zx q r (by omega) i (by omega)) h1 (fun j hj => by rw [h2 j hj, stL_end hx zx q r j (by omega)])).drewN m
  have HM : Hid (n + q + 1 = M) := hM
  have HZ : Hid ((arrOf (fun _ => 0) M).size = M ∧ ∀ j h, (arrOf (fun _ => 0) M)[j]'h = Value.int .u64 0) := ⟨arrOf_size _ _, fun j h => arrOf_get _ _ _ _⟩
  have hcw : ∀ (ss : Array Value) i, i < n → (w.alloc (.cells ss 23)).cell? ⟨b, off + i, none⟩ = some (.int .u64 (x i)) := fun ss i hi => ((below1 w _).cell (p := ⟨b, off + i, none⟩) hbs).trans (hc i hi)
  clear h zx hMi hc
  generalize arrOf (fun _ => 0) M = zz at *
  go_enter Tryz.func71, Tryz.ntmps71
  go_wp2
  go_loopw [6, 16] (fun u6 i wr => ∃ (k m : Nat) (ss : Array Value), k ≤ n ∧ i = .int .i64 k ∧ ss.size = M ∧ (∀ j h, ss[j]'h = Value.int .u64 (stL x q r k j)) ∧ wr = (w.alloc (.cells ss 23)).drewN m) (fun _ i _ => n - (intOf i).toNat)
  case atStart => exact ⟨0, 0, zz, Nat.zero_le _, rfl, HZ.out.1, fun j h => by rw [HZ.out.2 j h]; unfold stL; (by_cases e : j < q + 0); (rw [if_pos e]; unfold finL; rw [if_neg (by omega)]); (rw [if_neg e]; split; (unfold lowp; rw [if_neg (by omega)]); rfl), rfl⟩
  case round =>
    obtain ⟨k, m, ss, hk, rfl, hsz, hss, rfl⟩ := hrel
    by_cases h8 : k < n
    · have h8i : (k : Int) < n := by omega
      have h8s : k + q < ss.size := by omega
      have h8t : (k : Int) + q < M := by omega
      have h8u : (k : Int) + q + 1 < M := by omega
      have bx := hx k
      have hcx := hcw ss k h8
      have hsk : ss[k + q]? = some (.int .u64 (lowp x q r (q + k))) := by rw [Array.getElem?_eq_getElem h8s, hss _ h8s]; unfold stL; rw [if_neg (by omega), if_pos (by omega), Nat.add_comm]
      have hgo : ∀ h, ss[k + q]'h = .int .u64 (lowp x q r (q + k)) := fun h => by rw [hss _ h]; unfold stL; rw [if_neg (by omega), if_pos (by omega), Nat.add_comm]
      have h8v : k + q + 1 < ss.size := by omega
      have hsl : ss[k + q + 1]? = some (.int .u64 0) := by rw [Array.getElem?_eq_getElem h8v, hss _ h8v]; unfold stL; rw [if_neg (by omega), if_neg (by omega)]
      have hlow := lowp_word hx q r (q + k)
      have e1 : ((k : Int) + q).toNat = k + q := by omega
      have e2 : ((k : Int) + q + 1).toNat = k + q + 1 := by omega
      have HF : Hid (finL x q r (q + k) = bits BinOp.or IntKind.u64 (lowp x q r (q + k)) (IntKind.u64.wrap (x k * 2 ^ r))) := by
        show _ = _; unfold finL; rw [if_pos (by omega), show q + k - q = k by omega]; rfl
      have HR : Hid (∀ (i : Nat) (h : i < ((ss.setIfInBounds (k + q) (.int .u64 (finL x q r (q + k)))).setIfInBounds (k + q + 1) (.int .u64 (x k / 2 ^ (64 - r)))).size), ((ss.setIfInBounds (k + q) (.int .u64 (finL x q r (q + k)))).setIfInBounds (k + q + 1) (.int .u64 (x k / 2 ^ (64 - r))))[i]'h = Value.int .u64 (stL x q r (k + 1) i)) := stL_step1 hrp hss
      clear hss hfin hmk hx
      generalize hlo : lowp x q r (q + k) = lo at *
      have hcx' := hcw (ss.setIfInBounds (k + q) (.int .u64 (bits BinOp.or IntKind.u64 lo (IntKind.u64.wrap (x k * 2 ^ r))))) k h8
      clear hcw
      go_wp2
      go_region
      go_wp2
      go_roundw
      case rel => refine ⟨k + 1, m + 1, (ss.setIfInBounds (k + q) (.int .u64 (finL x q r (q + k)))).setIfInBounds (k + q + 1) (.int .u64 (x k / 2 ^ (64 - r))), by omega, by go_num, by simp [hsz], HR.out, ?_⟩; rw [HF.out]
      case measure => simp [intOf]; omega
    · obtain rfl : k = n := by omega
      have hT := ftrim_any _ _ _ _ _ (by omega) (hfin ss m hsz hss)
      have hle := sizeL_le (finL x q r) M
      clear hss hfin hmk hx hcw
      go_wp2_with (go_at_call 18; refine hT.mono ?_; rintro e w1 ⟨g, cap, rfl, hN, hB, hfg⟩)
      go_ret
      exact ⟨g, _, cap, rfl, Nat.le_trans hle (Nat.le_of_eq HM.out.symm), hN, (below_drewN (below1 w _) m).trans (hB.mono (by simp)), by simp at hfg; omega, sizeL_sizeL _ _⟩
end
theorem p10_pos (n : Nat) : (0 : Int) < 10 ^ n := Int.pow_pos (by decide)
/-- the digit of place i -/
def dgt (V : Int) (i : Nat) : Int := V / 10 ^ i % 10
theorem dgt_bd (V : Int) (i : Nat) : 0 ≤ dgt V i ∧ dgt V i ≤ 9 := by
  unfold dgt
  have := Int.emod_nonneg (V / 10 ^ i) (show (10 : Int) ≠ 0 by decide)
  have := Int.emod_lt_of_pos (V / 10 ^ i) (show (0 : Int) < 10 by decide)
  omega
theorem dgt_small {V : Int} {L : Nat} (h0 : 0 ≤ V) (h : V < 10 ^ L) (i : Nat) (hi : L ≤ i) : dgt V i = 0 := by
  unfold dgt
  have : V / 10 ^ i = 0 := Int.ediv_eq_zero_of_lt h0 (Int.lt_of_lt_of_le h (by
    obtain ⟨k, rfl⟩ : ∃ k, i = L + k := ⟨i - L, by omega⟩
    rw [Int.pow_add]
    have h1 := p10_pos L
    have h2 := p10_pos k
    have : (10 : Int) ^ L * 1 ≤ 10 ^ L * 10 ^ k := Int.mul_le_mul_of_nonneg_left (by omega) (by omega)
    omega))
  rw [this]; rfl
theorem div_div10 (V : Int) (a b : Nat) : V / 10 ^ a / 10 ^ b = V / 10 ^ (a + b) := by
  rw [Int.pow_add, Int.ediv_ediv_of_nonneg (Int.le_of_lt (p10_pos a))]
theorem emod_mul_ediv' {W a b : Int} (ha : 0 < a) : W % (a * b) / a = W / a % b := by
  rw [Int.emod_def, Int.emod_def, ← Int.ediv_ediv_of_nonneg (Int.le_of_lt ha)]
  have : W - a * b * (W / a / b) = W + (-(b * (W / a / b))) * a := by grind
  rw [this, Int.add_mul_ediv_right _ _ (by omega)]; omega
/-- the digits, the highest first: those of the lowest L places -/
def decL (V : Int) (L : Nat) : List Int := if sizeL (dgt V) L = 0 then [48] else (List.range (sizeL (dgt V) L)).map fun i => 48 + dgt V (sizeL (dgt V) L - 1 - i)
theorem decL_more {V : Int} {L L' : Nat} (h0 : 0 ≤ V) (h : V < 10 ^ L) (h' : V < 10 ^ L') : decL V L = decL V L' := by
  have key : ∀ a b, a ≤ b → V < 10 ^ a → decL V b = decL V a := fun a b hab ha => by
    unfold decL
    rw [sizeL_more (fun i hi => dgt_small h0 ha i hi) b hab]
  rcases Nat.le_total L L' with e | e
  · exact (key L L' e h).symm
  · exact key L' L e h'
/-- the digits of the lowest L places, as bytes -/
def blB (V : Int) (L : Nat) : List Value := (List.range L).map fun i => Value.int .u8 (48 + dgt V i)
theorem blB_succ (V : Int) (L : Nat) : blB V L ++ [Value.int .u8 (48 + dgt V L)] = blB V (L + 1) := by simp [blB, List.range_succ]
def slLen : Value → Nat | .slice _ n _ => n | _ => 0

theorem p22 : ∀ s : Nat, (18446744073709551616 : Int) ^ s ≤ 10 ^ (22 * s)
  | 0 => by simp
  | s + 1 => by
    have ih := p22 s
    have e : (10 : Int) ^ (22 * (s + 1)) = 10 ^ (22 * s) * 10000000000000000000000 := by rw [Nat.mul_add, Int.pow_add]; rfl
    rw [e, Int.pow_succ]
    have h0 := pw_pos s
    have h1 := p10_pos (22 * s)
    generalize (18446744073709551616 : Int) ^ s = A at *
    generalize (10 : Int) ^ (22 * s) = B at *
    omega
theorem p10_lt {L s : Nat} (h : (10 : Int) ^ L < 18446744073709551616 ^ s) : L < 22 * s := by
  rcases Nat.lt_or_ge L (22 * s) with h' | h'
  · exact h'
  · have h2 := p22 s
    obtain ⟨k, rfl⟩ : ∃ k, L = 22 * s + k := ⟨L - 22 * s, by omega⟩
    rw [Int.pow_add] at h
    have h3 := p10_pos k
    have h4 := p10_pos (22 * s)
    have : (10 : Int) ^ (22 * s) * 1 ≤ 10 ^ (22 * s) * 10 ^ k := Int.mul_le_mul_of_nonneg_left (by omega) (by omega)
    omega
/-- bytes that are made: block g holds those of f, n of them, none frozen -/
def HasB (g n : Nat) (f : Nat → Int) (w : World) : Prop := g < w.heap.size ∧ ∀ i, i < n → w.cell? ⟨g, i, none⟩ = some (.int .u8 (f i)) ∧ w.frozen? ⟨g, i, none⟩ = false
theorem owns_cells {w : World} {base g L cap : Nat} {V : Int} (h : w.ownsRow base 5 1 (.slice (some ⟨g, 0, none⟩) L cap) L (blB V L)) : base ≤ g ∧ L ≤ cap ∧ cap ≤ maxLen ∧ HasB g L (fun i => 48 + dgt V i) w := by
  obtain ⟨hl, h⟩ := h
  rcases h with ⟨h, _⟩ | ⟨g', cap', cur, he, hb, hh, h1, h2, h3, h4⟩
  · cases h
  · cases he
    have hg : g < w.heap.size := by
      rcases Nat.lt_or_ge g w.heap.size with h' | h'
      · exact h'
      · rw [Array.getElem?_eq_none h'] at hh; cases hh
    refine ⟨hb, h1, h2, hg, fun i hi => ⟨?_, ?_⟩⟩
    · have hcur : cur[i]? = some (.int .u8 (48 + dgt V i)) := by
        have : (cur.toList.take (L * 1))[i]? = some (.int .u8 (48 + dgt V i)) := by rw [h4]; simp [blB, hi]
        rw [List.getElem?_take] at this
        simpa [hi] using this
      unfold World.cell?
      simp [hh, hcur]
    · unfold World.frozen?
      simp [hh]
section
set_option maxHeartbeats 400000 in
theorem ofb_any (c : Int) (w : World) (hc : 0 ≤ c ∧ c ≤ 18446744073709551615) :
    Calls Tryz.prog 39 #[.int .u64 c] w fun e w' => ∃ g k cap z, e = .returned (.slice (some ⟨g, 0, none⟩) k cap) ∧ k ≤ 1 ∧ Num w' (some ⟨g, 0, none⟩) k cap z ∧ val z k = c ∧ Below w.heap.size w w' := by
  have hN := num_one w c hc
  have hT := trim_any _ 1 1 (oneW c) _ (by omega) hN
  have hle := sizeL_le (oneW c) 1
  have HV : Hid (val (oneW c) (sizeL (oneW c) 1) = c) := by show _ = _; rw [val_bare, val_one _ 1 (by omega)]
  have HB := below1 w (.cells #[.int .u64 c] 23)
  generalize sizeL (oneW c) 1 = s at *
  clear hN
  go_enter Tryz.func39, Tryz.ntmps39
  go_wp2_with (go_at_call 18; refine hT.mono ?_; rintro e w1 ⟨g, cap, rfl, hN, hB⟩)
  go_ret
  exact ⟨g, s, cap, _, rfl, hle, hN, HV.out, HB.trans (hB.mono HB.size)⟩
/-- the quotient's words from k on -/
def quoKb (x : Nat → Int) (d : Int) (s k i : Nat) : Int := if k ≤ i ∧ i < s then quoW x d s i else 0
set_option maxHeartbeats 1000000 in
theorem smb_any (a : Option Addr) (s c : Nat) (x : Nat → Int) (d : Int) (w : World) (hs : s < 100000) (h : Num w a s c x) (hd : 0 < d ∧ d ≤ 18446744073709551615) :
    Calls Tryz.prog 19 #[.slice a s c, .int .u64 d] w fun e w' => ∃ g k cap z g' k' cap' z', e = .returned (.tuple #[.slice (some ⟨g, 0, none⟩) k cap, .slice (some ⟨g', 0, none⟩) k' cap']) ∧ k ≤ s ∧ k' ≤ 1 ∧ Num w' (some ⟨g, 0, none⟩) k cap z ∧ Num w' (some ⟨g', 0, none⟩) k' cap' z' ∧ val z k = val x s / d ∧ sizeL z k = k ∧ val z' k' = val x s % d ∧ Below w.heap.size w w' := by
  have hx := h.2.2.1
  have H := fun j hj w => limDiv_ok x d s hx hd j hj w
  have hd0 : (d == 0) = false := by simp; omega
  have hmk := fun w => make_any (s : Int) s rfl (by omega) w
  have hA := apart_of h
  have hBW := below1 w (.cells (arrOf (fun _ => 0) s) 23)
  have hnx := h.next hBW
  have hO := Own.new w (fun _ => 0) s
  have hqv := quo_val hx hd.1 s
  have HQW : Hid (Words (quoW x d s)) := quoW_words hx hd.1 s
  have hrb := remJ_bd x d s s hd.1
  have HB : Hid (Below w.heap.size w (w.alloc (.cells (arrOf (fun _ => 0) s) 23))) := hBW
  clear hBW h hx
  go_enter Tryz.func19, Tryz.ntmps19
  go_wp2
  generalize w.alloc (.cells (arrOf (fun _ => 0) s) 23) = wA at *
  go_loopw [7, 8, 19] (fun c i u19 wr => ∃ (k : Nat), k ≤ s ∧ i = .int .i64 ((k : Int) - 1) ∧ c = .int .u64 (remJ x d s (s - k)) ∧ Own w.heap.size s (quoKb x d s k) wr ∧ Upd w.heap.size wA wr) (fun _ i _ _ => (intOf i + 1).toNat)
  case atStart => exact ⟨s, Nat.le_refl _, by go_num, by rw [Nat.sub_self]; rfl, hO.congr fun i _ => by unfold quoKb; rw [if_neg (by omega)], Upd.refl _ _⟩
  case round =>
    clear hO
    obtain ⟨k, hk, rfl, rfl, hO, hU⟩ := hrel
    by_cases h0 : k = 0
    · subst h0
      have hN := hO.num (x := quoKb x d s 0) (fun i => by unfold quoKb; split; exact HQW.out i; decide) 0 s s (by omega) (Nat.le_refl _) (by unfold maxLen; omega)
      have hT := trim_any _ s s _ _ (by omega) hN
      have hle := sizeL_le (segW (quoKb x d s 0) 0 s) s
      have HV : Hid (val (segW (quoKb x d s 0) 0 s) (sizeL (segW (quoKb x d s 0) 0 s) s) = val x s / d) := by
        show _ = _
        rw [val_bare, val_congr (y := quoW x d s) s fun i hi => by rw [segW_lt _ _ _ i hi, Nat.zero_add]; unfold quoKb; rw [if_pos (by omega)], hqv.1]
      have HR : Hid (remJ x d s s = val x s % d) := hqv.2
      have HBr : Hid (Below w.heap.size w wr) := HB.out.trans (hU.below (Nat.le_refl _))
      have HST : Hid (sizeL (segW (quoKb x d s 0) 0 s) (sizeL (segW (quoKb x d s 0) 0 s) s) = sizeL (segW (quoKb x d s 0) 0 s) s) := sizeL_sizeL _ _
      generalize segW (quoKb x d s 0) 0 s = qz at *
      generalize sizeL qz s = k1 at *
      have hof := fun wr => ofb_any (remJ x d s s) wr (by omega)
      rw [Nat.sub_zero]
      generalize remJ x d s s = rm at *
      clear hN hO hU H hqv
      go_wp2_with (go_at_call 18; refine hT.mono ?_; rintro e w1 ⟨g, cap, rfl, hN1, hB1⟩; clear hT)
      go_wp2_with (go_at_call 39; refine (hof _).mono ?_; rintro e w2 ⟨g2, k2, p2, z2, rfl, hk2, hN2, hv2, hB2⟩; clear hof)
      go_ret2
      exact ⟨g, k1, cap, qz, g2, k2, p2, z2, rfl, hle, hk2, hN1.next hB2, hN2, HV.out, HST.out, by rw [hv2, HR.out], (HBr.out.trans (hB1.mono HBr.out.size)).trans (hB2.mono (Nat.le_trans HBr.out.size hB1.size))⟩
    · obtain ⟨j, rfl⟩ : ∃ j, k = j + 1 := ⟨k - 1, by omega⟩
      have hjm : (j : Int) < s := by omega
      have ej : ((j + 1 : Nat) : Int) - 1 = j := by omega
      have ej2 : s - (j + 1) = s - 1 - j := by omega
      rw [ej, ej2]
      obtain ⟨b, off, rfl, hbs, hc⟩ := (hU.num' hA hnx).cells (by omega)
      have hcx := hc j (by omega)
      have hcj : ∃ u, wr.cell? ⟨w.heap.size, j, none⟩ = some (.int .u64 u) := ⟨_, hO.cell j (by omega)⟩
      obtain ⟨u, hcj⟩ := hcj
      have hfj := hO.frozen j
      have HJ := H j (by omega)
      have HO : Hid (Own w.heap.size s (quoKb x d s j) (wr.setCell ⟨w.heap.size, j, none⟩ (.int .u64 (quoW x d s j)))) := (hO.set j (quoW x d s j)).congr fun i hi => by
        unfold quoKb
        by_cases e : i = j
        · subst e; rw [if_pos rfl, if_pos (by omega)]
        · rw [if_neg e]
          by_cases e2 : j + 1 ≤ i ∧ i < s
          · rw [if_pos e2, if_pos (by omega)]
          · rw [if_neg e2, if_neg (by omega)]
      have HU : Hid (Upd w.heap.size wA (wr.setCell ⟨w.heap.size, j, none⟩ (.int .u64 (quoW x d s j)))) := hU.set j _
      clear hO hU H ej ej2 hc hqv hA hnx
      go_wp2_with (go_at_call 38; refine (HJ _).mono ?_; rintro e w' ⟨rfl, m', rfl⟩)
      go_roundw
      case rel => exact ⟨j, by omega, by go_num, rfl, HO.out, HU.out.drewN m'⟩
      case measure => simp [intOf]
end
section
theorem Tryz.info5d : (Tryz.prog.info? 5).map (fun i => (i.zero, i.size, i.bytes)) = some (some (.int .u8 0), 1, 1) := by kernel_rfl

theorem dgt_step18 {V r : Int} {L j : Nat} (hr : V / 10 ^ L % 10 ^ 18 = r) (hj : j < 18) : r / 10 ^ j % 10 = dgt V (L + j) := by
  unfold dgt
  rw [← div_div10]
  generalize V / 10 ^ L = W at *
  subst hr
  have h1 : (10 : Int) ^ 18 = 10 ^ j * (10 * 10 ^ (17 - j)) := by
    rw [← Int.mul_assoc, ← Int.pow_succ, ← Int.pow_add]; congr 1; omega
  have hp := p10_pos j
  have hp2 := p10_pos (17 - j)
  rw [h1, emod_mul_ediv' hp]
  exact Int.emod_emod_of_dvd _ ⟨10 ^ (17 - j), rfl⟩
theorem lt_sizeL {V : Int} (h0 : 0 ≤ V) : ∀ L, V < 10 ^ L → V < 10 ^ (sizeL (dgt V) L)
  | 0, h => h
  | L + 1, h => by
    by_cases e : dgt V L = 0
    · have e1 : sizeL (dgt V) (L + 1) = sizeL (dgt V) L := by simp [sizeL, e]
      rw [e1]
      refine lt_sizeL h0 L ?_
      unfold dgt at e
      have hp := p10_pos L
      rw [Int.pow_succ] at h
      have h1 : V / 10 ^ L < 10 := Int.ediv_lt_of_lt_mul hp (by omega)
      have h2 : 0 ≤ V / 10 ^ L := Int.ediv_nonneg h0 (by omega)
      have h3 : V / 10 ^ L = 0 := by omega
      have := Int.lt_mul_ediv_self_add (x := V) (k := 10 ^ L) hp
      rw [h3] at this; omega
    · have e1 : sizeL (dgt V) (L + 1) = L + 1 := by simp [sizeL, e]
      rw [e1]; exact h
theorem owns_below {w w' : World} {base n : Nat} {v : Value} {xs : List Value} (h : w.ownsRow base 5 1 v n xs) (hB : Below w.heap.size w w') : w'.ownsRow base 5 1 v n xs := by
  obtain ⟨h1, h2⟩ := h
  refine ⟨h1, ?_⟩
  rcases h2 with h2 | ⟨g', cap, cur, e, hb, hh, r⟩
  · exact Or.inl h2
  · have hg : g' < w.heap.size := by
      rcases Nat.lt_or_ge g' w.heap.size with h' | h'
      · exact h'
      · rw [Array.getElem?_eq_none h'] at hh; cases hh
    exact Or.inr ⟨g', cap, cur, e, hb, (hB.block g' hg).trans hh, r⟩
theorem num_grown {w w' : World} {V : Int} {g k cap base L cp : Nat} {ao : Option Addr} {z : Nat → Int} (hN : Num w (some ⟨g, 0, none⟩) k cap z) (hown : w.ownsRow base 5 1 (.slice ao L cp) L (blB V L)) (hao : ao = none ∨ 0 < L) (hg : w.grownBy w' (Value.slice ao L cp).ownBlock) : Num w' (some ⟨g, 0, none⟩) k cap z := by
  obtain ⟨h1, h2, h3, h4, h5⟩ := hN
  rcases h5 with ⟨h, _⟩ | ⟨b, off, e, hb, hc⟩
  · cases h
  · cases e
    refine ⟨h1, h2, h3, h4, Or.inr ⟨g, 0, rfl, Nat.lt_of_lt_of_le hb hg.size, fun i hi => ?_⟩⟩
    have hne : some g ≠ (Value.slice ao L cp).ownBlock := by
      intro e
      rcases ao with _ | ⟨b', o', s'⟩
      · cases e
      · have hL : 0 < L := by rcases hao with h | h; cases h; exact h
        obtain ⟨g', cap', e2, _⟩ := hown.form hL
        cases e2
        cases e
        have h6 := hc 0 (by omega)
        rw [Nat.add_zero, hown.cellAt 0 (by omega)] at h6
        simp [blB, hL] at h6
    exact (hg.cell_far ⟨g, 0 + i, none⟩ hb hne).trans (hc i hi)
/-- in the middle of the work: the digits so far, and the rest to come -/
def DS (w0 : World) (V : Int) (ao : Option Addr) (L cp g k cap : Nat) (z : Nat → Int) (wr : World) : Prop :=
  wr.ownsRow w0.heap.size 5 1 (.slice ao L cp) L (blB V L) ∧ (ao = none ∨ 0 < L) ∧ Num wr (some ⟨g, 0, none⟩) k cap z ∧ Below w0.heap.size w0 wr
def revL (V : Int) (K : Nat) : List Int := (List.range K).map fun i => 48 + dgt V (K - 1 - i)
def rl (V : Int) (K i : Nat) : List Value := (List.range i).map fun q => Value.int .u8 (48 + dgt V (K - 1 - q))
theorem rl_succ (V : Int) (K i : Nat) : rl V K i ++ [Value.int .u8 (48 + dgt V (K - 1 - i))] = rl V K (i + 1) := by simp [rl, List.range_succ]

set_option maxRecDepth 20000 in
set_option maxHeartbeats 4000000 in
theorem rdec_any (a : Option Addr) (n c : Nat) (x : Nat → Int) (w : World) (hn : n < 100000) (h : Num w a n c x) (hsz : sizeL x n ≤ 2000) (hpos : 0 < sizeL x n) :
    Calls Tryz.prog 8 #[.slice a n c] w fun e w' => ∃ L, val x n < 10 ^ L ∧ e = .returned (.string (strOfNums (revL (val x n) (sizeL (dgt (val x n)) L)))) ∧ Below w.heap.size w w' := by
  have ht := trim_any a n c x w (by omega) h
  obtain ⟨s, hs⟩ : ∃ s, sizeL x n = s := ⟨_, rfl⟩
  have hss := sizeL_sizeL x n
  have hx := h.2.2.1
  rw [← val_bare n]
  rw [hs] at ht hsz hss hpos ⊢
  obtain ⟨V, hV⟩ : ∃ V, val x s = V := ⟨_, rfl⟩
  have hV0 : 0 < V := by rw [← hV]; exact val_pos hx s hpos hss
  rw [hV]
  have HVB : Hid (V < 18446744073709551616 ^ s) := by show _ < _; rw [← hV]; exact (val_bd hx s).2
  have HV : Hid (val x s = V) := hV
  have HSS : Hid (sizeL x s = s) := hss
  clear h hs hV hss hx
  go_enter Tryz.func8, Tryz.ntmps8
  go_wp2_with (go_at_call 18; refine ht.mono ?_; rintro e wA ⟨g0, cap0, rfl, hN0, hB0⟩; clear ht)
  go_loopw [0, 3, 4, 5, 6, 15, 22] (fun t0 t3 u4 u5 u6 u15 u22 wr => ∃ (L k cp g cap : Nat) (ao : Option Addr) (z : Nat → Int), t3 = .slice ao L cp ∧ t0 = .slice (some ⟨g, 0, none⟩) k cap ∧ k ≤ s ∧ L ≤ 22 * s + 18 ∧ Hid (sizeL z k = k ∧ val z k = V / 10 ^ L) ∧ Hid (DS w V ao L cp g k cap z wr)) (fun _ t3 _ _ _ _ _ _ => 22 * s + 19 - slLen t3)
  case atStart => exact ⟨0, s, 0, g0, cap0, none, x, rfl, rfl, Nat.le_refl _, by omega, ⟨HSS.out, by rw [HV.out]; simp⟩, ⟨World.ownsRow_nil _ _ _ _, Or.inl rfl, hN0, hB0⟩⟩
  case round =>
    clear hN0 hB0
    obtain ⟨L, k, cp, g, cap, ao, z, rfl, rfl, hk, hLs, hzv, hst⟩ := hrel
    by_cases h0 : k = 0
    · subst h0
      have hVL : V < 10 ^ L := by
        have e : V / 10 ^ L = 0 := hzv.out.2.symm
        have := Int.lt_mul_ediv_self_add (x := V) (k := 10 ^ L) (p10_pos L)
        rw [e] at this; simpa using this
      have HVL : Hid (V < 10 ^ L) := hVL
      have hKp : 0 < sizeL (dgt V) L := by
        rcases Nat.eq_zero_or_pos (sizeL (dgt V) L) with e | e
        · have := lt_sizeL (Int.le_of_lt hV0) L hVL
          rw [e] at this; simp at this; omega
        · exact e
      have hL0 : 0 < L := Nat.lt_of_lt_of_le hKp (sizeL_le _ _)
      obtain ⟨hown, hao, hN, hB⟩ := hst.out
      obtain ⟨gb, capb, e2, hbg, hgb⟩ := hown.form hL0
      cases e2
      obtain ⟨_, hLc, hcm, hHB⟩ := owns_cells hown
      have HHB : Hid (HasB gb L (fun i => 48 + dgt V i) wr) := hHB
      have HB : Hid (Below w.heap.size w wr) := hB
      clear hst hown hao hN hB hHB hzv hVL
      go_wp2
      go_loop [7] (fun t7 => ∃ m : Nat, m ≤ L ∧ t7 = .int .i64 m ∧ Hid (sizeL (dgt V) m = sizeL (dgt V) L)) (fun t7 => (intOf t7).toNat)
      case atStart => exact ⟨L, Nat.le_refl _, rfl, rfl⟩
      case round =>
        obtain ⟨m, hm, rfl, hmK⟩ := hrel
        by_cases hm0 : m = 0
        · subst hm0
          have := hmK.out
          simp [sizeL] at this
          omega
        · obtain ⟨j, rfl⟩ : ∃ j, m = j + 1 := ⟨m - 1, by omega⟩
          have hcj : wr.cell? ⟨gb, j, none⟩ = some (.int .u8 (48 + dgt V j)) := (HHB.out.2 j (by omega)).1
          have hdb := dgt_bd V j
          by_cases hzj : dgt V j = 0
          · have HS : Hid (sizeL (dgt V) j = sizeL (dgt V) L) := by
              have : sizeL (dgt V) (j + 1) = sizeL (dgt V) j := by simp [sizeL, hzj]
              exact this.symm.trans hmK.out
            clear hmK
            rw [hzj] at hcj
            go_wp2
            go_round
            case rel => exact ⟨j, by omega, by go_num, HS.out⟩
            case measure => simp [intOf]
          · have HS : Hid (sizeL (dgt V) L = j + 1) := by
              have : sizeL (dgt V) (j + 1) = j + 1 := by simp [sizeL, hzj]
              exact hmK.out.symm.trans this
            have hne : (48 + dgt V j == 48) = false := by simp; omega
            clear hmK
            generalize dgt V j = dj at hcj hdb hzj hne
            go_wp2
            clear hcj hdb hzj hne
            have HK : Hid (0 < j + 1 ∧ j + 1 ≤ L) := by show _ ∧ _; omega
            rename World => wB
            go_loopw [8, 9, 50] (fun t8 u9 t50 wr => ∃ (i cp2 : Nat) (ao2 : Option Addr), i ≤ (j + 1) ∧ t8 = .slice ao2 i cp2 ∧ t50 = .int .i64 i ∧ Hid (wr.ownsRow wB.heap.size 5 1 (.slice ao2 i cp2) i (rl V (j + 1) i) ∧ Below wB.heap.size wB wr)) (fun _ _ t50 _ => (j + 1) - (intOf t50).toNat)
            case atStart => exact ⟨0, 0, none, Nat.zero_le _, rfl, rfl, ⟨World.ownsRow_nil _ _ _ _, Below.refl _ _⟩⟩
            case round =>
              obtain ⟨i, cp2, ao2, hi, rfl, rfl, hst2⟩ := hrel
              obtain ⟨hown2, hB2⟩ := hst2.out
              by_cases hik : i < (j + 1)
              · obtain ⟨q, hq⟩ : ∃ q, (j + 1) - 1 - i = q := ⟨_, rfl⟩
                have e1 : ((j : Int) - i).toNat = q := by omega
                have e2 : 0 ≤ (j : Int) - i := by omega
                have e3 : (j : Int) - i < L := by have := HK.out.2; omega
                have hii : (i : Int) < (j : Int) + 1 := by omega
                have hcq : wr.cell? ⟨gb, q, none⟩ = some (.int .u8 (48 + dgt V q)) := (World.cell?_of_block (hB2.block gb hgb)).trans (HHB.out.2 q (by have := HK.out.2; omega)).1
                have hdb := dgt_bd V q
                have HDV : Hid (dgt V q = dgt V ((j + 1) - 1 - i)) := by show _ = _; rw [hq]
                generalize dgt V q = dq at *
                obtain ⟨i0, hi0, hz0, hz1, hz2⟩ := info_parts Tryz.info5d
                have HOWN : (wr.alloc (.cells #[.int .u8 (48 + dq)] 5)).ownsRow wB.heap.size 5 1 (.slice ao2 i cp2) i (rl V (j + 1) i) := hown2.alloc _
                have HNEWS : ∀ (q : Nat) (u : Value), [Value.int .u8 (48 + dq)][q]? = some u → (wr.alloc (.cells #[.int .u8 (48 + dq)] 5)).cell? ((⟨wr.heap.size, 0, none⟩ : Addr).add q) = some u := by
                  intro q u hq
                  match q, hq with
                  | 0, hq => simp at hq; subst hq; simp [Addr.add]
                have HONE : ∀ u ∈ [Value.int .u8 (48 + dq)], u.oneCell' = true := by
                  intro u hu; simp at hu; subst hu; rfl
                have HOF : Hid (∀ q, (Value.slice ao2 i cp2).ownBlock = some q → wB.heap.size ≤ q) := fun q hq => (hown2.lt q hq).1
                have hb2s := hB2.size
                have HB2 : Hid (Below wB.heap.size wB wr) := hB2
                have HKL := HK.out.2
                clear hst2 hown2 hB2 hq
                go_wp2_with (first | (at_builtin; refine wpList_append_lies _ rfl (.tmp 53) (.tmp 61) 48 rfl wB.heap.size 5 i0 (.int .u8 0) 1 1 Tryz.underlying48 hi0 hz0 hz1 hz2 rfl (by decide) (.slice ao2 i cp2) i (rl V (j + 1) i) rfl HOWN ⟨wr.heap.size, 0, none⟩ 1 1 [Value.int .u8 (48 + dq)] rfl rfl HNEWS HONE (by omega) (by unfold maxLen; omega) (by omega) (by simp; omega) (wr.heap.size + 1) (by simp) ?_; intro g1 cap1 w1 hown1 hgrow hat hlt1; clear HOWN HNEWS HONE))
                have HB3 : Below wB.heap.size wr w1 := ((Below.refl _ wr).alloc hb2s _).grown hgrow (by simp; omega) HOF.out
                have HST : Hid (w1.ownsRow wB.heap.size 5 1 (.slice (some ⟨g1, 0, none⟩) (i + 1) cap1) (i + 1) (rl V (j + 1) (i + 1)) ∧ Below wB.heap.size wB w1) := by
                  refine ⟨?_, HB2.out.trans HB3⟩
                  rw [HDV.out, rl_succ] at hown1; exact hown1
                clear hown1 hgrow HB3
                go_wp2
                go_roundw
                case rel => exact ⟨i + 1, cap1, some ⟨g1, 0, none⟩, by omega, rfl, by go_num, HST.out⟩
                case measure => simp [intOf]; omega
              · obtain rfl : i = j + 1 := by omega
                obtain ⟨g2, cap2, e2, _⟩ := hown2.form HK.out.1
                cases e2
                have hcc : ∀ q, q < j + 1 → wr.cell? ⟨g2, q, none⟩ = some (.int .u8 (48 + dgt V (j + 1 - 1 - q))) := fun q hq => by
                  rw [hown2.cellAt q (by omega)]; simp [rl, hq]
                have hcv := run_convert_bytes_arg (P := Tryz.prog) wr 48 5 Tryz.underlying48 Tryz.underlying5 g2 0 (j + 1) cp2 (revL V (j + 1)) (by simp [revL]) (fun q hq => by rw [Nat.zero_add, hcc q hq]; simp [revL, hq]) 9 Tryz.underlying9
                have HB3 : Hid (Below w.heap.size w wr) := HB.out.trans (hB2.mono HB.out.size)
                clear hst2 hown2 hB2 hcc
                go_wp2
                go_ret
                exact ⟨L, HVL.out, by rw [HS.out]; rfl, HB3.out⟩
    · have hk0 : (0 : Int) < k := by omega
      obtain ⟨hown, hao, hN, hB⟩ := hst.out
      have hz := hN.2.2.1
      have hL : L < 22 * s := by
        have h1 := val_pos hz k (by omega) hzv.out.1
        rw [hzv.out.2] at h1
        refine p10_lt (Int.lt_of_le_of_lt ?_ HVB.out)
        have h2 := p10_pos L
        rcases Int.lt_or_le V (10 ^ L) with h3 | h3
        · rw [Int.ediv_eq_zero_of_lt (Int.le_of_lt hV0) h3] at h1; omega
        · exact h3
      have hsm := smb_any (some ⟨g, 0, none⟩) k cap z 1000000000000000000 wr (by omega) hN (by decide)
      have HQ : Hid (val z k / 1000000000000000000 = V / 10 ^ (L + 18)) := by show _ = _; rw [hzv.out.2, ← div_div10]; rfl
      have HR0 : Hid (val z k % 1000000000000000000 = V / 10 ^ L % 10 ^ 18) := by show _ = _; rw [hzv.out.2]; rfl
      have HOW : Hid (wr.ownsRow w.heap.size 5 1 (.slice ao L cp) L (blB V L)) := hown
      have HB : Hid (Below w.heap.size w wr) := hB
      clear hst hown hN hB hz hzv
      go_wp2_with (first | (go_at_call 19; refine hsm.mono ?_; rintro e w1 ⟨g1, k1, cap1, z1, g2, k2, cap2, z2, rfl, hk1, hk2, hN1, hN2, hv1, hs1, hv2, hB1⟩; clear hsm; have hwd := word_any (some ⟨g2, 0, none⟩) k2 cap2 0 z2 w1 hN2) | (go_at_call 20; refine hwd.mono ?_; rintro e w1' ⟨rfl, hww⟩; subst hww; clear hwd))
      have hr : V / 10 ^ L % 10 ^ 18 = z2 0 := by
        rw [← HR0.out, ← hv2]
        rcases Nat.eq_zero_or_pos k2 with e | e
        · subst e; rw [hN2.2.2.2.1 0 (Nat.le_refl _)]; rfl
        · have : k2 = 1 := by omega
          subst this; simp [val]
      have HR : Hid (∀ j, j < 18 → z2 0 / 10 ^ j % 10 = dgt V (L + j)) := fun j hj => dgt_step18 hr hj
      have hrb := hN2.2.2.1 0
      have hst1 : Hid (DS w V ao L cp g1 k1 cap1 z1 w1') := ⟨owns_below HOW.out hB1, hao, hN1, HB.out.trans (hB1.mono HB.out.size)⟩
      have HZ1 : Hid (sizeL z1 k1 = k1 ∧ val z1 k1 = V / 10 ^ (L + 18)) := ⟨hs1, by rw [hv1, HQ.out]⟩
      generalize z2 0 = r at *
      clear hN1 hN2 hB1 hr hv1 hv2 hs1 HQ HR0 HOW HB
      go_loopw [3, 6, 22] (fun t3 t6 t22 wr => ∃ (j cp : Nat) (ao : Option Addr), j ≤ 18 ∧ t3 = .slice ao (L + j) cp ∧ t6 = .int .u64 (r / 10 ^ j) ∧ t22 = .int .i64 j ∧ Hid (DS w V ao (L + j) cp g1 k1 cap1 z1 wr)) (fun _ _ t22 _ => 18 - (intOf t22).toNat)
      case atStart => exact ⟨0, cp, ao, by omega, rfl, by simp, rfl, hst1⟩
      case round =>
        clear hst1
        obtain ⟨j, cp2, ao2, hj, rfl, rfl, rfl, hst2⟩ := hrel
        by_cases hj18 : j < 18
        · have hji : (j : Int) < 18 := by omega
          have hp : 0 ≤ r / 10 ^ j ∧ r / 10 ^ j ≤ 18446744073709551615 := by
            have h1 := p10_pos j
            have h2 := Int.ediv_nonneg hrb.1 (Int.le_of_lt h1)
            have h3 : r / 10 ^ j ≤ r := Int.ediv_le_self _ hrb.1
            omega
          have HP : Hid (r / 10 ^ (j + 1) = r / 10 ^ j / 10) := by
            show _ = _
            rw [Int.pow_succ, ← Int.ediv_ediv_of_nonneg (Int.le_of_lt (p10_pos j))]
          have HVAL : Hid (r / 10 ^ j % 10 = dgt V (L + j)) := HR.out j hj18
          generalize r / 10 ^ j = p at *
          obtain ⟨i0, hi0, hz0, hz1, hz2⟩ := info_parts Tryz.info5d
          obtain ⟨hown, hao2, hN, hB⟩ := hst2.out
          have HOWN : (wr.alloc (.cells #[.int .u8 (48 + p % 10)] 5)).ownsRow w.heap.size 5 1 (.slice ao2 (L + j) cp2) (L + j) (blB V (L + j)) := hown.alloc _
          have HO2 : Hid ((wr.alloc (.cells #[.int .u8 (48 + p % 10)] 5)).ownsRow w.heap.size 5 1 (.slice ao2 (L + j) cp2) (L + j) (blB V (L + j))) := HOWN
          have HN2 : Hid (Num (wr.alloc (.cells #[.int .u8 (48 + p % 10)] 5)) (some ⟨g1, 0, none⟩) k1 cap1 z1) := hN.next (below1 wr _)
          have HNEWS : ∀ (q : Nat) (u : Value), [Value.int .u8 (48 + p % 10)][q]? = some u → (wr.alloc (.cells #[.int .u8 (48 + p % 10)] 5)).cell? ((⟨wr.heap.size, 0, none⟩ : Addr).add q) = some u := by
            intro q u hq
            match q, hq with
            | 0, hq => simp at hq; subst hq; simp [Addr.add]
          have HONE : ∀ u ∈ [Value.int .u8 (48 + p % 10)], u.oneCell' = true := by
            intro u hu; simp at hu; subst hu; rfl
          have HOF : Hid (∀ q, (Value.slice ao2 (L + j) cp2).ownBlock = some q → w.heap.size ≤ q) := fun q hq => (hown.lt q hq).1
          have hbs := hB.size
          have HB : Hid (Below w.heap.size w wr) := hB
          clear hown hN hB hst2
          go_wp2_with (first | (at_builtin; refine wpList_append_lies _ rfl (.tmp 24) (.tmp 29) 48 rfl w.heap.size 5 i0 (.int .u8 0) 1 1 Tryz.underlying48 hi0 hz0 hz1 hz2 rfl (by decide) (.slice ao2 (L + j) cp2) (L + j) (blB V (L + j)) rfl HOWN ⟨wr.heap.size, 0, none⟩ 1 1 [Value.int .u8 (48 + p % 10)] rfl rfl HNEWS HONE (by omega) (by unfold maxLen; omega) (by omega) (by simp; omega) (wr.heap.size + 1) (by simp) ?_; intro g3 cap3 w3 hown1 hgrow hat hlt1; clear HOWN HNEWS HONE))
          have HB3 : Below w.heap.size wr w3 := ((Below.refl _ wr).alloc hbs _).grown hgrow (by simp; omega) HOF.out
          have HST : Hid (DS w V (some ⟨g3, 0, none⟩) (L + (j + 1)) cap3 g1 k1 cap1 z1 w3) := by
            refine ⟨?_, Or.inr (by omega), num_grown HN2.out HO2.out hao2 hgrow, HB.out.trans HB3⟩
            rw [HVAL.out, blB_succ] at hown1; exact hown1
          clear hown1 hgrow HB3
          go_wp2
          go_roundw
          case rel => exact ⟨j + 1, cap3, some ⟨g3, 0, none⟩, by omega, rfl, by rw [HP.out], by go_num, HST.out⟩
          case measure => simp [intOf]; omega
        · obtain rfl : j = 18 := by omega
          go_wp2
          go_roundw
          case rel => exact ⟨L + 18, k1, cp2, g1, cap1, ao2, z1, rfl, rfl, by omega, by omega, HZ1.out, hst2⟩
          case measure => simp [slLen]; omega
end
end Go.Proofs.YtpemdcnneabbfaaGreatDoor
