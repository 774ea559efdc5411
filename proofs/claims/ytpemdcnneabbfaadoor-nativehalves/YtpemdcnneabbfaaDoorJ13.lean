/-
  Texts that the proof leans on.
-/
import Derived.Test.YtpemdcnneabbfaaDoorJ11
set_option linter.unusedVariables false
set_option linter.unusedSimpArgs false
set_option linter.unusedSectionVars false
set_option maxRecDepth 20000
namespace Go.Proofs.YtpemdcnneabbfaaDoor
open Go.RowKit
section
/-- the words of x, to those from off on y's lowest k added -/
def addZ (x y : Nat → Int) (off k j : Nat) : Int := if off ≤ j ∧ j < off + k then sumW (fun i => x (off + i)) y (j - off) else x j
theorem addZ_next (x y : Nat → Int) (off k j : Nat) : (if j = off + k then sumW (fun i => x (off + i)) y k else addZ x y off k j) = addZ x y off (k + 1) j := by
  unfold addZ
  by_cases e : j = off + k
  · subst e
    rw [if_pos rfl, if_pos (by omega)]; congr 1; omega
  · rw [if_neg e]
    by_cases e2 : off ≤ j ∧ j < off + k
    · rw [if_pos e2, if_pos (by omega)]
    · rw [if_neg e2, if_neg (by omega)]
theorem addZ_at (x y : Nat → Int) (off k : Nat) : addZ x y off k (off + k) = x (off + k) := by unfold addZ; rw [if_neg (by omega)]

theorem Num.cells {w : World} {a : Option Addr} {n c : Nat} {x : Nat → Int} (h : Num w a n c x) (hn : 0 < n) : ∃ b off, a = some ⟨b, off, none⟩ ∧ b < w.heap.size ∧ ∀ i, i < n → w.cell? ⟨b, off + i, none⟩ = some (.int .u64 (x i)) := by
  rcases h.2.2.2.2 with ⟨_, h'⟩ | ⟨b, off, h', hb, hc⟩
  · have := h.1; omega
  · exact ⟨b, off, h', hb, hc⟩

set_option maxHeartbeats 1000000 in
theorem addInto_any (g N off m c k c' : Nat) (a' : Option Addr) (x y : Nat → Int) (w : World) (hm : off + m ≤ N) (hN : N < 4294967296) (hk : k ≤ m) (hx : Words x) (h : Own g N x w) (h' : Num w a' k c' y) (hA : Apart a' g) :
    Calls Tryd.prog 83 #[.slice (some ⟨g, off, none⟩) m c, .slice a' k c'] w fun e w' => e = .returned (.int .u64 (carryW (fun i => x (off + i)) y k)) ∧ Own g N (addZ x y off k) w' ∧ Upd g w w' := by
  have hy := h'.2.2.1
  have hX : Words (fun i => x (off + i)) := fun i => hx (off + i)
  have HX : Hid (Words (fun i => x (off + i))) := hX
  go_enter Tryd.func83, Tryd.ntmps83
  go_wp2
  go_loopw [5, 6, 7, 10, 15] (fun cv u6 u7 i u15 wr => ∃ (j : Nat), j ≤ k ∧ i = .int .i64 j ∧ cv = .int .u64 (carryW (fun i => x (off + i)) y j) ∧ Own g N (addZ x y off j) wr ∧ Upd g w wr) (fun _ _ _ i _ _ => k - (intOf i).toNat)
  case atStart => exact ⟨0, Nat.zero_le _, rfl, rfl, h.congr fun i _ => by unfold addZ; rw [if_neg (by omega)], Upd.refl _ _⟩
  case round =>
    obtain ⟨j, hj, rfl, rfl, hO, hU⟩ := hrel
    have hcar := carryW_01 HX.out hy j
    by_cases hlt : j < k
    · have hji : (j : Int) < k := by omega
      have hjm : (j : Int) < m := by omega
      obtain ⟨b, off', rfl, hb, hc⟩ := (hU.num' hA h').cells (by omega)
      have hcj := hc j hlt
      have hco := hO.cell (off + j) (by omega)
      rw [addZ_at] at hco
      have hfo := hO.frozen (off + j)
      have bx := hx (off + j)
      have b_y := hy j
      have hadd := fun w => add64 (x (off + j)) (y j) (carryW (fun i => x (off + i)) y j) bx.1 b_y.1 hcar.1 hcar.2 w
      have HO : Hid (Own g N (addZ x y off (j + 1)) (wr.setCell ⟨g, off + j, none⟩ (.int .u64 (sumW (fun i => x (off + i)) y j)))) := (hO.set (off + j) _).congr fun i _ => addZ_next x y off j i
      have HU : Hid (Upd g w (wr.setCell ⟨g, off + j, none⟩ (.int .u64 (sumW (fun i => x (off + i)) y j)))) := hU.set (off + j) _
      clear hO hU hc h h' hA hx hy hX
      go_wp2
      go_roundw
      case rel => exact ⟨j + 1, by omega, by go_num, rfl, HO.out, HU.out⟩
      case measure => simp [intOf]; omega
    · obtain rfl : j = k := by omega
      have HO : Hid (Own g N (addZ x y off j) wr) := hO
      have HU : Hid (Upd g w wr) := hU
      clear hO hU h h' hA hx hy hX
      go_wp2
      go_ret
      exact ⟨rfl, HO.out, HU.out⟩

theorem carryW_stop {x y : Nat → Int} (hx : Words x) {k : Nat} (zy : ∀ i, k ≤ i → y i = 0) {i : Nat} (hi : k ≤ i) (h0 : carryW x y i = 0) : ∀ j, i ≤ j → carryW x y j = 0 ∧ sumW x y j = x j := by
  have h1 : ∀ j, i ≤ j → carryW x y j = 0 := by
    intro j hj
    induction j with
    | zero => obtain rfl : i = 0 := by omega
              exact h0
    | succ j ih =>
      by_cases e : i = j + 1
      · rw [← e]; exact h0
      · have hb := hx j
        simp only [carryW]; rw [ih (by omega), zy j (by omega)]; omega
  intro j hj
  refine ⟨h1 j hj, ?_⟩
  have hb := hx j
  unfold sumW
  rw [h1 j hj, zy j (by omega)]; omega

set_option maxHeartbeats 1000000 in
theorem carryInto_any (g N k c : Nat) (x y : Nat → Int) (w : World) (hk : k ≤ N) (hN : N < 4294967296) (hx : Words x) (hy : Words y) (zy : ∀ i, k ≤ i → y i = 0) (hend : carryW x y N = 0) (h : Own g N (addZ x y 0 k) w) :
    Calls Tryd.prog 82 #[.slice (some ⟨g, k, none⟩) (N - k) c, .int .u64 (carryW x y k)] w fun e w' => e = .returned (.tuple #[]) ∧ Own g N (sumW x y) w' ∧ Upd g w w' := by
  have e0 : (fun i => x (0 + i)) = x := by funext i; rw [Nat.zero_add]
  go_enter Tryd.func82, Tryd.ntmps82
  go_wp2
  go_loopw [1, 4, 9] (fun cv i u9 wr => ∃ (j : Nat), k + j ≤ N ∧ i = .int .i64 j ∧ cv = .int .u64 (carryW x y (k + j)) ∧ Own g N (addZ x y 0 (k + j)) wr ∧ Upd g w wr) (fun _ i _ _ => N - (intOf i).toNat)
  case atStart => exact ⟨0, by omega, rfl, rfl, h, Upd.refl _ _⟩
  case round =>
    obtain ⟨j, hj, rfl, rfl, hO, hU⟩ := hrel
    have hcar := carryW_01 hx hy (k + j)
    by_cases hc0 : carryW x y (k + j) = 0
    · have HO : Hid (Own g N (sumW x y) wr) := hO.congr fun i hi => by
        unfold addZ
        by_cases e : 0 ≤ i ∧ i < 0 + (k + j)
        · rw [if_pos e, e0]; rfl
        · rw [if_neg e]; exact ((carryW_stop hx zy (by omega) hc0 i (by omega)).2).symm
      have HU : Hid (Upd g w wr) := hU
      rw [hc0]
      clear hO hU h hend hcar e0
      go_wp2
      go_end0
      exact ⟨rfl, HO.out, HU.out⟩
    · have hlt : k + j < N := by
        rcases Nat.lt_or_ge (k + j) N with h' | h'
        · exact h'
        · obtain e : k + j = N := by omega
          rw [e] at hc0; exact absurd hend hc0
      have hpos : 0 < carryW x y (k + j) := by omega
      have hji : (j : Int) < ((N - k : Nat) : Int) := by omega
      have hco := hO.cell (k + j) hlt
      have e1 : addZ x y 0 (k + j) (k + j) = x (k + j) := by have := addZ_at x y 0 (k + j); simpa using this
      rw [e1] at hco
      have hfo := hO.frozen (k + j)
      have bx := hx (k + j)
      have hs : sumW x y (k + j) = (x (k + j) + carryW x y (k + j)) % 18446744073709551616 := by unfold sumW; rw [zy _ (by omega), Int.add_zero]
      have hcn : carryW x y (k + (j + 1)) = (x (k + j) + carryW x y (k + j)) / 18446744073709551616 := by
        show (x (k + j) + y (k + j) + carryW x y (k + j)) / 18446744073709551616 = _
        rw [zy _ (by omega), Int.add_zero]
      have hadd := fun w => add64 (x (k + j)) 0 (carryW x y (k + j)) bx.1 (by decide) hcar.1 hcar.2 w
      have HO : Hid (Own g N (addZ x y 0 (k + (j + 1))) (wr.setCell ⟨g, k + j, none⟩ (.int .u64 (sumW x y (k + j))))) := (hO.set (k + j) _).congr fun i _ => by
        have := addZ_next x y 0 (k + j) i
        rw [e0, Nat.zero_add] at this
        exact this
      have HU : Hid (Upd g w (wr.setCell ⟨g, k + j, none⟩ (.int .u64 (sumW x y (k + j))))) := hU.set (k + j) _
      have HC : Hid (carryW x y (k + (j + 1)) = (x (k + j) + carryW x y (k + j)) / 18446744073709551616) := hcn
      rw [hs] at HO HU
      clear hO hU h hend hx hy zy hc0 e1 hs hcn e0
      go_wp2
      go_roundw
      case rel => exact ⟨j + 1, by omega, by go_num, by rw [HC.out], HO.out, HU.out⟩
      case measure => simp [intOf]; omega

theorem sum_end {x y : Nat → Int} {s s' N : Nat} (hx : Words x) (hy : Words y) (zx : ∀ i, s ≤ i → x i = 0) (zy : ∀ i, s' ≤ i → y i = 0) (h : s < N) (h' : s' < N) : carryW x y N = 0 := by
  obtain ⟨q, rfl⟩ : ∃ q, N = q + 1 := ⟨N - 1, by omega⟩
  have := carryW_01 hx hy q
  simp only [carryW]; rw [zx q (by omega), zy q (by omega)]; omega
/-- what is left behind the work: the sum, trimmed -/
theorem sum_num {x y : Nat → Int} {g N s s' : Nat} {w : World} (hx : Words x) (hy : Words y) (zx : ∀ i, s ≤ i → x i = 0) (zy : ∀ i, s' ≤ i → y i = 0) (h : s < N) (h' : s' < N) (hN : N < 4294967296) (hO : Own g N (sumW x y) w) :
    Num w (some ⟨g, 0, none⟩) N N (segW (sumW x y) 0 N) ∧ val (segW (sumW x y) 0 N) N = val x s + val y s' := by
  refine ⟨hO.num (sumW_words x y) 0 N N (by omega) (Nat.le_refl _) (by unfold maxLen; omega), ?_⟩
  rw [val_congr (x := segW (sumW x y) 0 N) (y := sumW x y) N fun i hi => by rw [segW_lt _ 0 N i hi, Nat.zero_add]]
  have e := sum_val (x := x) (y := y) N
  rw [sum_end hx hy zx zy h h', val_more zx N (by omega), val_more zy N (by omega)] at e
  omega

set_option maxHeartbeats 1000000 in
theorem nadd_any (a a' : Option Addr) (n c n' c' : Nat) (x y : Nat → Int) (w : World) (hn : n < 4000000000) (hn' : n' < 4000000000) (h : Num w a n c x) (h' : Num w a' n' c' y) :
    Calls Tryd.prog 70 #[.slice a n c, .slice a' n' c'] w fun e w' => ∃ g k cap z, e = .returned (.slice (some ⟨g, 0, none⟩) k cap) ∧ k ≤ max (sizeL x n) (sizeL y n') + 1 ∧ Num w' (some ⟨g, 0, none⟩) k cap z ∧ val z k = val x n + val y n' ∧ sizeL z k = k ∧ Below w.heap.size w w' := by
  have hb := bare_any a n c x w (by omega) h
  have hb' := bare_any a' n' c' y w (by omega) h'
  rw [← val_bare n, ← val_bare n']
  have hx := h.2.2.1
  have hy := h'.2.2.1
  have hle := sizeL_le x n
  have hle' := sizeL_le y n'
  have hN := h.bare
  have hN' := h'.bare
  generalize sizeL x n = s at *
  generalize sizeL y n' = s' at *
  clear h h'
  by_cases hlt : s < s'
  · have hlt' : (s : Int) < s' := by omega
    obtain ⟨N, hNs⟩ : ∃ N, s' + 1 = N := ⟨_, rfl⟩
    have hNi : (s' : Int) + 1 = N := by omega
    have hmk := fun w => make_any ((s' : Int) + 1) N hNi (by omega) w
    have hcp := fun ty => copy_num (N := N) (C := N) ty hN' (by omega)
    have hO := Own.new w y N
    have hA : Apart a w.heap.size := by
      intro p hp
      rcases hN.2.2.2.2 with ⟨h, _⟩ | ⟨b, off, h, hb, _⟩
      · rw [h] at hp; cases hp
      · rw [h] at hp; cases hp; exact Nat.ne_of_lt hb
    have hnS := hN.next (below1 w (.cells (arrOf y N) 22))
    have hai := fun wr hO hn => addInto_any w.heap.size N 0 N N s c a y x wr (by omega) (by omega) (by omega) hy hO hn hA
    rw [show (fun i => y (0 + i)) = y by funext i; rw [Nat.zero_add]] at hai
    have hci := fun wr hO => carryInto_any w.heap.size N s (N - s) y x wr (by omega) (by omega) hy hx hN.2.2.2.1 (sum_end hy hx hN'.2.2.2.1 hN.2.2.2.1 (by omega) (by omega)) hO
    have HSN : Hid (∀ w2, Own w.heap.size N (sumW y x) w2 → Num w2 (some ⟨w.heap.size, 0, none⟩) N N (segW (sumW y x) 0 N) ∧ val (segW (sumW y x) 0 N) N = val y s' + val x s) := fun w2 h2 => sum_num hy hx hN'.2.2.2.1 hN.2.2.2.1 (by omega) (by omega) (by omega) h2
    have HBW : Hid (Below w.heap.size w (w.alloc (.cells (arrOf y N) 22))) := below1 w _
    have hsN : (s : Int) ≤ N := by omega
    clear hN hN' hNi hA hx hy
    go_enter Tryd.func70, Tryd.ntmps70
    go_wp2_with (first | (go_at_call_of 50 (Value.slice a n c); refine hb.mono ?_; rintro e w' ⟨rfl, rfl⟩) | (go_at_call_of 50 (Value.slice a' n' c'); refine hb'.mono ?_; rintro e w' ⟨rfl, rfl⟩))
    generalize w.alloc (.cells (arrOf y N) 22) = wA at *
    go_region_with (first | (go_at_call 83; refine (hai wA.drew hO hnS).mono ?_; rintro e w1 ⟨rfl, hO1, hU1⟩) | (go_at_call 82; refine (hci _ hO1).mono ?_; rintro e w2 ⟨rfl, hO2, hU2⟩))
    have hsn := HSN.out w2 hO2
    have hbr := bare_any (some ⟨w.heap.size, 0, none⟩) N N (segW (sumW y x) 0 N) w2 (by omega) hsn.1
    have HN2 : Hid (Num w2 (some ⟨w.heap.size, 0, none⟩) (sizeL (segW (sumW y x) 0 N) N) N (segW (sumW y x) 0 N)) := hsn.1.bare
    have HV2 : Hid (val (segW (sumW y x) 0 N) (sizeL (segW (sumW y x) 0 N) N) = val y s' + val x s) := by show _ = _; rw [val_bare, hsn.2]
    have HS2 : Hid (sizeL (segW (sumW y x) 0 N) (sizeL (segW (sumW y x) 0 N) N) = sizeL (segW (sumW y x) 0 N) N) := sizeL_sizeL _ _
    have HLE : Hid (sizeL (segW (sumW y x) 0 N) N ≤ N) := sizeL_le _ _
    generalize segW (sumW y x) 0 N = z at *
    generalize sizeL z N = k at *
    have HB2 : Hid (Below w.heap.size w w2) := (HBW.out.drew.trans (hU1.below (Nat.le_refl _))).trans (hU2.below (Nat.le_refl _))
    clear hsn hO1 hO2 hU1 hU2 hO hnS hai hci hb hb'
    go_wp2_with (go_at_call 50; refine hbr.mono ?_; rintro e w3 ⟨rfl, rfl⟩)
    go_ret
    exact ⟨_, k, N, z, rfl, by have := HLE.out; omega, HN2.out, by rw [HV2.out]; omega, HS2.out, HB2.out⟩
  · have hlt' : ¬ (s : Int) < s' := by omega
    obtain ⟨N, hNs⟩ : ∃ N, s + 1 = N := ⟨_, rfl⟩
    have hNi : (s : Int) + 1 = N := by omega
    have hmk := fun w => make_any ((s : Int) + 1) N hNi (by omega) w
    have hcp := fun ty => copy_num (N := N) (C := N) ty hN (by omega)
    have hO := Own.new w x N
    have hA : Apart a' w.heap.size := by
      intro p hp
      rcases hN'.2.2.2.2 with ⟨h, _⟩ | ⟨b, off, h, hb, _⟩
      · rw [h] at hp; cases hp
      · rw [h] at hp; cases hp; exact Nat.ne_of_lt hb
    have hnS := hN'.next (below1 w (.cells (arrOf x N) 22))
    have hai := fun wr hO hn => addInto_any w.heap.size N 0 N N s' c' a' x y wr (by omega) (by omega) (by omega) hx hO hn hA
    rw [show (fun i => x (0 + i)) = x by funext i; rw [Nat.zero_add]] at hai
    have hci := fun wr hO => carryInto_any w.heap.size N s' (N - s') x y wr (by omega) (by omega) hx hy hN'.2.2.2.1 (sum_end hx hy hN.2.2.2.1 hN'.2.2.2.1 (by omega) (by omega)) hO
    have HSN : Hid (∀ w2, Own w.heap.size N (sumW x y) w2 → Num w2 (some ⟨w.heap.size, 0, none⟩) N N (segW (sumW x y) 0 N) ∧ val (segW (sumW x y) 0 N) N = val x s + val y s') := fun w2 h2 => sum_num hx hy hN.2.2.2.1 hN'.2.2.2.1 (by omega) (by omega) (by omega) h2
    have HBW : Hid (Below w.heap.size w (w.alloc (.cells (arrOf x N) 22))) := below1 w _
    have hsN : (s' : Int) ≤ N := by omega
    clear hN hN' hNi hA hx hy
    go_enter Tryd.func70, Tryd.ntmps70
    go_wp2_with (first | (go_at_call_of 50 (Value.slice a n c); refine hb.mono ?_; rintro e w' ⟨rfl, rfl⟩) | (go_at_call_of 50 (Value.slice a' n' c'); refine hb'.mono ?_; rintro e w' ⟨rfl, rfl⟩))
    generalize w.alloc (.cells (arrOf x N) 22) = wA at *
    go_region_with (first | (go_at_call 83; refine (hai wA.drew hO hnS).mono ?_; rintro e w1 ⟨rfl, hO1, hU1⟩) | (go_at_call 82; refine (hci _ hO1).mono ?_; rintro e w2 ⟨rfl, hO2, hU2⟩))
    have hsn := HSN.out w2 hO2
    have hbr := bare_any (some ⟨w.heap.size, 0, none⟩) N N (segW (sumW x y) 0 N) w2 (by omega) hsn.1
    have HN2 : Hid (Num w2 (some ⟨w.heap.size, 0, none⟩) (sizeL (segW (sumW x y) 0 N) N) N (segW (sumW x y) 0 N)) := hsn.1.bare
    have HV2 : Hid (val (segW (sumW x y) 0 N) (sizeL (segW (sumW x y) 0 N) N) = val x s + val y s') := by show _ = _; rw [val_bare, hsn.2]
    have HS2 : Hid (sizeL (segW (sumW x y) 0 N) (sizeL (segW (sumW x y) 0 N) N) = sizeL (segW (sumW x y) 0 N) N) := sizeL_sizeL _ _
    have HLE : Hid (sizeL (segW (sumW x y) 0 N) N ≤ N) := sizeL_le _ _
    generalize segW (sumW x y) 0 N = z at *
    generalize sizeL z N = k at *
    have HB2 : Hid (Below w.heap.size w w2) := (HBW.out.drew.trans (hU1.below (Nat.le_refl _))).trans (hU2.below (Nat.le_refl _))
    clear hsn hO1 hO2 hU1 hU2 hO hnS hai hci hb hb'
    go_wp2_with (go_at_call 50; refine hbr.mono ?_; rintro e w3 ⟨rfl, rfl⟩)
    go_ret
    exact ⟨_, k, N, z, rfl, by have := HLE.out; omega, HN2.out, by rw [HV2.out], HS2.out, HB2.out⟩
end
end Go.Proofs.YtpemdcnneabbfaaDoor
