/-
  What nat's Div does: a contract.
-/
import Derived.Test.YtkbplchgaploeaaDoorDlg
set_option linter.unusedVariables false
set_option linter.unusedSimpArgs false
namespace Go.Proofs.YtkbplchgaploeaaDoor
open Go.RowKit

theorem val_oneA (c : Int) : val (oneW c) 1 = c := by simp [val, oneW]
/-- the two answers of a division, and what is told -/
def DivOut (n n' : Nat) (X Y : Int) (w : World) (e : Ending) (w' : World) : Prop :=
  ∃ o k cap z o' k' cap' z', e = .returned (.tuple #[.slice o k cap, .slice o' k' cap', .int .i64 0]) ∧ k ≤ 2001 ∧ k' ≤ 2001 ∧ Num w' o k cap z ∧ Num w' o' k' cap' z' ∧ val z k = X / Y ∧ val z' k' = X % Y ∧ sizeL z k = k ∧ sizeL z' k' = k' ∧ Below w.heap.size w w'

set_option maxHeartbeats 400000 in
theorem ndiv_zero (a a' : Option Addr) (n c n' c' : Nat) (x y : Nat → Int) (w : World) (hn : n < 4000000000) (hn' : n' < 4000000000) (h : Num w a n c x) (h' : Num w a' n' c' y) (hy : sizeL y n' = 0) :
    Calls Tryd.prog 27 #[.slice a n c, .slice a' n' c'] w fun e w' => e = .returned (.tuple #[.slice none 0 0, .slice none 0 0, .int .i64 1]) ∧ w = w' := by
  have hb := bare_any a n c x w (by omega) h
  have hb' := bare_any a' n' c' y w (by omega) h'
  rw [hy] at hb'
  clear h h'
  go_enter Tryd.func27, Tryd.ntmps27
  go_wp2_with (first | (go_at_call_of 35 (Value.slice a n c); refine hb.mono ?_; rintro e w' ⟨rfl, rfl⟩) | (go_at_call_of 35 (Value.slice a' n' c'); refine hb'.mono ?_; rintro e w' ⟨rfl, rfl⟩))
  go_ret3
  exact ⟨rfl, rfl⟩
set_option maxHeartbeats 400000 in
theorem ndiv_less (a a' : Option Addr) (n c n' c' : Nat) (x y : Nat → Int) (w : World) (hn : n < 4000000000) (hn' : n' < 4000000000) (h : Num w a n c x) (h' : Num w a' n' c' y) (hs : sizeL x n ≤ 2000) (hs' : sizeL y n' ≤ 2000) (hlt : sizeL x n < sizeL y n') :
    Calls Tryd.prog 27 #[.slice a n c, .slice a' n' c'] w (DivOut n n' (val x n) (val y n') w) := by
  have hb := bare_any a n c x w (by omega) h
  have hb' := bare_any a' n' c' y w (by omega) h'
  have hle := sizeL_le x n
  have hle' := sizeL_le y n'
  have ht := ntrim_any a (sizeL x n) c x w (by omega) h.bare
  rw [sizeL_sizeL] at ht
  have hv := val_longer h.2.2.1 h'.2.2.1 hlt (sizeL_sizeL y n')
  rw [val_bare, val_bare] at hv
  have hx0 := (val_bd h.2.2.1 n).1
  have HV : Hid (val x n / val y n' = 0 ∧ val x n % val y n' = val x n) := ⟨Int.ediv_eq_zero_of_lt hx0 hv, Int.emod_eq_of_lt hx0 hv⟩
  have HN : Hid (Num (w.alloc (.cells (arrOf x (sizeL x n)) 44)) (some ⟨w.heap.size, 0, none⟩) (sizeL x n) (sizeL x n) x) := num_of_block (by omega) h.2.2.1 h.bare.2.2.2.1 (arrOf_size _ _) (fun j hj => arrOf_get _ _ _ _)
  have HVX : Hid (val x (sizeL x n) = val x n) := val_bare n
  have HSS : Hid (sizeL x (sizeL x n) = sizeL x n) := sizeL_sizeL x n
  have hlti : (sizeL x n : Int) < sizeL y n' := by omega
  have hsi : (sizeL x n : Int) ≤ 2000 := by omega
  have hsi' : (sizeL y n' : Int) ≤ 2000 := by omega
  have hne : ((sizeL y n' : Int) == 0) = false := by simp; omega
  generalize sizeL x n = s at *
  generalize sizeL y n' = s' at *
  clear h h' hv hx0
  generalize val x n = X at *
  generalize val y n' = Y at *
  go_enter Tryd.func27, Tryd.ntmps27
  go_wp2_with (first | (go_at_call_of 35 (Value.slice a n c); refine hb.mono ?_; rintro e w' ⟨rfl, rfl⟩) | (go_at_call_of 35 (Value.slice a' n' c'); refine hb'.mono ?_; rintro e w' ⟨rfl, rfl⟩) | (go_at_call 14; refine ht.mono ?_; rintro e w1 ⟨rfl, rfl⟩))
  go_ret3
  exact ⟨none, 0, 0, _, _, s, s, x, rfl, by omega, by omega, num_none _, HN.out, by rw [HV.out.1]; rfl, by rw [HV.out.2]; exact HVX.out, rfl, HSS.out, below1 w _⟩
set_option maxHeartbeats 1000000 in
theorem ndiv_one (a a' : Option Addr) (n c n' c' : Nat) (x y : Nat → Int) (w : World) (hn : n < 4000000000) (hn' : n' < 4000000000) (h : Num w a n c x) (h' : Num w a' n' c' y) (hs : sizeL x n ≤ 2000) (hs' : sizeL y n' = 1) (hlt : 1 ≤ sizeL x n) :
    Calls Tryd.prog 27 #[.slice a n c, .slice a' n' c'] w (DivOut n n' (val x n) (val y n') w) := by
  have hb := bare_any a n c x w (by omega) h
  have hb' := bare_any a' n' c' y w (by omega) h'
  have hle := sizeL_le x n
  have hle' := sizeL_le y n'
  have ht := ntrim_any a (sizeL x n) c x w (by omega) h.bare
  rw [sizeL_sizeL] at ht
  have hy1 : val y n' = y 0 := by rw [← val_bare n', hs']; simp [val]
  have hyt := sizeL_top (x := y) n' (by omega)
  rw [hs'] at hyt
  have hyb := h'.2.2.1 0
  have hy0 : 0 < y 0 := by have : y 0 ≠ 0 := hyt; omega
  obtain ⟨b', off', rfl, hbs', hc'⟩ := h'.cells (by omega)
  have hcy := hc' 0 (by omega)
  have hx := h.2.2.1
  have HVX : Hid (val x (sizeL x n) = val x n) := val_bare n
  rw [hs'] at hb'
  have hd := divideBy_any w.heap.size (sizeL x n) (sizeL x n) (sizeL x n) x (y 0) _ (Nat.le_refl _) (by omega) hx ⟨hy0, hyb.2⟩ (Own.new w x (sizeL x n))
  have hqv := quo_val hx hy0 (sizeL x n)
  rw [hy1]
  have hcy2 : (w.alloc (.cells (arrOf x (sizeL x n)) 44)).cell? ⟨b', off', none⟩ = some (.int .u64 (y 0)) := ((below1 w _).cell (p := ⟨b', off', none⟩) hbs').trans hcy
  have HB := below1 w (.cells (arrOf x (sizeL x n)) 44)
  have hsi : (sizeL x n : Int) ≤ 2000 := by omega
  have hs1i : ¬ (sizeL x n : Int) < 1 := by omega
  have hs1n : ¬ sizeL x n < 1 := by omega
  have HDW : Hid (Words (divZ x (y 0) (sizeL x n) 0)) := divZ_words hx hy0 _ 0
  have HDV : Hid (val (divZ x (y 0) (sizeL x n) 0) (sizeL x n) = val x n / y 0) := by
    show _ = _
    rw [val_congr (y := quoW x (y 0) (sizeL x n)) (sizeL x n) fun i hi => by unfold divZ; rw [if_pos (by omega)], hqv.1, HVX.out]
  have HRV : Hid (remJ x (y 0) (sizeL x n) (sizeL x n) = val x n % y 0) := by show _ = _; rw [hqv.2, HVX.out]
  have hrb := remJ_bd x (y 0) (sizeL x n) (sizeL x n) hy0
  generalize remJ x (y 0) (sizeL x n) (sizeL x n) = rm at *
  generalize divZ x (y 0) (sizeL x n) 0 = dz at *
  generalize sizeL x n = s at *
  clear h h' hc' hqv hyt hx HVX hy1
  generalize val x n = X at *
  go_enter Tryd.func27, Tryd.ntmps27
  go_wp2_with (first | (go_at_call_of 35 (Value.slice a n c); refine hb.mono ?_; rintro e w' ⟨rfl, rfl⟩; clear hb) | (go_at_call_of 35 (Value.slice (some ⟨b', off', none⟩) n' c'); refine hb'.mono ?_; rintro e w' ⟨rfl, rfl⟩; clear hb') | (go_at_call 14; refine ht.mono ?_; rintro e w1 ⟨rfl, rfl⟩) | (go_at_call 52; refine hd.mono ?_; rintro e w2 ⟨rfl, hO2, hU2⟩))
  obtain ⟨k, z', hkN, hNk, hvk, hsk, hbr⟩ := bare_own hO2 HDW.out (by omega) (Nat.le_refl s) (by unfold maxLen; omega) HDV.out
  go_wp2_with (go_at_call 35; refine hbr.mono ?_; rintro e w3 ⟨rfl, rfl⟩; clear hbr)
  have hN1 := num_one w2 rm (by omega)
  have hB2 := below1 w2 (.cells #[.int .u64 rm] 44)
  have hbr2 := bare_any _ 1 1 (oneW rm) _ (by omega) hN1
  have HN1 : Hid (Num (w2.alloc (.cells #[.int .u64 rm] 44)) (some ⟨w2.heap.size, 0, none⟩) (sizeL (oneW rm) 1) 1 (oneW rm)) := hN1.bare
  have HNk : Hid (Num (w2.alloc (.cells #[.int .u64 rm] 44)) (some ⟨w.heap.size, 0, none⟩) k s z') := hNk.next hB2
  have HBB : Hid (Below w.heap.size w (w2.alloc (.cells #[.int .u64 rm] 44))) := (HB.trans (hU2.below (Nat.le_refl _))).trans (hB2.mono (by rw [hU2.size]; simp))
  have HV1 : Hid (val (oneW rm) (sizeL (oneW rm) 1) = X % y 0) := by show _ = _; rw [val_bare, val_oneA, HRV.out]
  have HSS : Hid (sizeL (oneW rm) (sizeL (oneW rm) 1) = sizeL (oneW rm) 1) := sizeL_sizeL _ _
  have HLE : Hid (sizeL (oneW rm) 1 ≤ 1) := sizeL_le _ _
  generalize sizeL (oneW rm) 1 = k1 at *
  clear hN1 hB2 hNk hO2 hU2 HB
  go_wp2_with (go_at_call 35; refine hbr2.mono ?_; rintro e w4 ⟨rfl, rfl⟩; clear hbr2)
  go_ret3
  exact ⟨_, k, s, z', _, k1, 1, oneW rm, rfl, by omega, by have := HLE.out; omega, HNk.out, HN1.out, hvk, HV1.out, hsk, HSS.out, HBB.out⟩
set_option maxHeartbeats 1000000 in
theorem ndiv_long (a a' : Option Addr) (n c n' c' : Nat) (x y : Nat → Int) (w : World) (hn : n < 4000000000) (hn' : n' < 4000000000) (h : Num w a n c x) (h' : Num w a' n' c' y) (hs : sizeL x n ≤ 2000) (hs' : 2 ≤ sizeL y n') (hlt : sizeL y n' ≤ sizeL x n) :
    Calls Tryd.prog 27 #[.slice a n c, .slice a' n' c'] w (DivOut n n' (val x n) (val y n') w) := by
  have hb := bare_any a n c x w (by omega) h
  have hb' := bare_any a' n' c' y w (by omega) h'
  have hle := sizeL_le x n
  have hle' := sizeL_le y n'
  have hd := divideLong_any a a' (sizeL x n) c (sizeL y n') c' x y w hs hs' hlt h.bare h'.bare (sizeL_sizeL y n')
  rw [val_bare, val_bare] at hd
  have hlti : ¬ (sizeL x n : Int) < sizeL y n' := by omega
  have hltn : ¬ sizeL x n < sizeL y n' := by omega
  have hsi : (sizeL x n : Int) ≤ 2000 := by omega
  have hsi' : (sizeL y n' : Int) ≤ 2000 := by omega
  have hne : ((sizeL y n' : Int) == 0) = false := by simp; omega
  have hne1 : ((sizeL y n' : Int) == 1) = false := by simp; omega
  generalize sizeL x n = s at *
  generalize sizeL y n' = s' at *
  clear h h'
  generalize val x n = X at *
  generalize val y n' = Y at *
  go_enter Tryd.func27, Tryd.ntmps27
  go_wp2_with (first | (go_at_call_of 35 (Value.slice a n c); refine hb.mono ?_; rintro e w' ⟨rfl, rfl⟩; clear hb) | (go_at_call_of 35 (Value.slice a' n' c'); refine hb'.mono ?_; rintro e w' ⟨rfl, rfl⟩; clear hb') | (go_at_call 53; refine hd.mono ?_; rintro e w2 ⟨gq, gr, q, z, rfl, hQ, hqw, hqv, hR, hzw, hzv, hB⟩))
  obtain ⟨k, z', hkN, hNk, hvk, hsk, hbr⟩ := bare_own hQ hqw (by omega) (Nat.le_refl _) (by unfold maxLen; omega) hqv
  obtain ⟨k2, z2, hkN2, hNk2, hvk2, hsk2, hbr2⟩ := bare_own hR hzw (by omega) (Nat.le_refl _) (by unfold maxLen; omega) hzv
  have HNk : Hid (Num w2 (some ⟨gq, 0, none⟩) k (s - s' + 1) z') := hNk
  have HNk2 : Hid (Num w2 (some ⟨gr, 0, none⟩) k2 s' z2) := hNk2
  clear hQ hR hNk hNk2
  go_wp2_with (go_at_call 35; refine hbr.mono ?_; rintro e w3 ⟨rfl, rfl⟩; clear hbr)
  go_wp2_with (go_at_call 35; refine hbr2.mono ?_; rintro e w4 ⟨rfl, rfl⟩; clear hbr2)
  go_ret3
  exact ⟨_, k, _, z', _, k2, _, z2, rfl, by omega, by omega, HNk.out, HNk2.out, hvk, hvk2, hsk, hsk2, hB⟩
theorem ndiv_any (a a' : Option Addr) (n c n' c' : Nat) (x y : Nat → Int) (w : World) (hn : n < 4000000000) (hn' : n' < 4000000000) (h : Num w a n c x) (h' : Num w a' n' c' y) (hs : sizeL x n ≤ 2000) (hs' : sizeL y n' ≤ 2000) (hy : 0 < sizeL y n') :
    Calls Tryd.prog 27 #[.slice a n c, .slice a' n' c'] w (DivOut n n' (val x n) (val y n') w) := by
  by_cases h1 : sizeL x n < sizeL y n'
  · exact ndiv_less a a' n c n' c' x y w hn hn' h h' hs hs' h1
  · by_cases h2 : sizeL y n' = 1
    · exact ndiv_one a a' n c n' c' x y w hn hn' h h' hs h2 (by omega)
    · exact ndiv_long a a' n c n' c' x y w hn hn' h h' hs (by omega) (by omega)
end Go.Proofs.YtkbplchgaploeaaDoor
