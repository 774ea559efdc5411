/-
  Texts that the proof leans on.
-/
import Derived.Test.YtpemdcnneabbfaaGreatDoorJ19
set_option linter.unusedVariables false
set_option linter.unusedSimpArgs false
set_option linter.unusedSectionVars false
set_option maxRecDepth 20000
namespace Go.Proofs.YtpemdcnneabbfaaGreatDoor
open Go.RowKit
section
/-- the words of x, to those from off on y's lowest k added -/
def addZ (x y : Nat → Int) (off k j : Nat) : Int := if off ≤ j ∧ j < off + k then sumW (fun i => x (off + i)) y (j - off) else x j
theorem addZ_next (x y : Nat → Int) (off k j : Nat) : (if j = off + k then sumW (fun i => x (off + i)) y k else addZ x y off k j) = addZ x y off (k + 1) j := by
  unfold addZ
  by_cases e : j = off + k
  · subst e
    rw [if_pos rfl, if_pos (by omega)]; congr 1; omega
  · rw [if_neg e]
    by_cases e2 : off ≤ j ∧ j < off + k
    · rw [if_pos e2, if_pos (by omega)]
    · rw [if_neg e2, if_neg (by omega)]
theorem addZ_at (x y : Nat → Int) (off k : Nat) : addZ x y off k (off + k) = x (off + k) := by unfold addZ; rw [if_neg (by omega)]

theorem Num.cells {w : World} {a : Option Addr} {n c : Nat} {x : Nat → Int} (h : Num w a n c x) (hn : 0 < n) : ∃ b off, a = some ⟨b, off, none⟩ ∧ b < w.heap.size ∧ ∀ i, i < n → w.cell? ⟨b, off + i, none⟩ = some (.int .u64 (x i)) := by
  rcases h.2.2.2.2 with ⟨_, h'⟩ | ⟨b, off, h', hb, hc⟩
  · have := h.1; omega
  · exact ⟨b, off, h', hb, hc⟩

set_option maxHeartbeats 1000000 in
theorem addInto_any (g N off m c k c' : Nat) (a' : Option Addr) (x y : Nat → Int) (w : World) (hm : off + m ≤ N) (hN : N < 4294967296) (hk : k ≤ m) (hx : Words x) (h : Own g N x w) (h' : Num w a' k c' y) (hA : Apart a' g) :
    Calls Tryz.prog 135 #[.slice (some ⟨g, off, none⟩) m c, .slice a' k c'] w fun e w' => e = .returned (.int .u64 (carryW (fun i => x (off + i)) y k)) ∧ Own g N (addZ x y off k) w' ∧ Upd g w w' := by
  have hy := h'.2.2.1
  have hX : Words (fun i => x (off + i)) := fun i => hx (off + i)
  have HX : Hid (Words (fun i => x (off + i))) := hX
  go_enter Tryz.func135, Tryz.ntmps135
  go_wp2
  go_loopw [5, 6, 7, 10, 15] (fun cv u6 u7 i u15 wr => ∃ (j : Nat), j ≤ k ∧ i = .int .i64 j ∧ cv = .int .u64 (carryW (fun i => x (off + i)) y j) ∧ Own g N (addZ x y off j) wr ∧ Upd g w wr) (fun _ _ _ i _ _ => k - (intOf i).toNat)
  case atStart => exact ⟨0, Nat.zero_le _, rfl, rfl, h.congr fun i _ => by unfold addZ; rw [if_neg (by omega)], Upd.refl _ _⟩
  case round =>
    obtain ⟨j, hj, rfl, rfl, hO, hU⟩ := hrel
    have hcar := carryW_01 HX.out hy j
    by_cases hlt : j < k
    · have hji : (j : Int) < k := by omega
      have hjm : (j : Int) < m := by omega
      obtain ⟨b, off', rfl, hb, hc⟩ := (hU.num' hA h').cells (by omega)
      have hcj := hc j hlt
      have hco := hO.cell (off + j) (by omega)
      rw [addZ_at] at hco
      have hfo := hO.frozen (off + j)
      have bx := hx (off + j)
      have b_y := hy j
      have hadd := fun w => add64 (x (off + j)) (y j) (carryW (fun i => x (off + i)) y j) bx.1 b_y.1 hcar.1 hcar.2 w
      have HO : Hid (Own g N (addZ x y off (j + 1)) (wr.setCell ⟨g, off + j, none⟩ (.int .u64 (sumW (fun i => x (off + i)) y j)))) := (hO.set (off + j) _).congr fun i _ => addZ_next x y off j i
      have HU : Hid (Upd g w (wr.setCell ⟨g, off + j, none⟩ (.int .u64 (sumW (fun i => x (off + i)) y j)))) := hU.set (off + j) _
      clear hO hU hc h h' hA hx hy hX
      go_wp2
      go_roundw
      case rel => exact ⟨j + 1, by omega, by go_num, rfl, HO.out, HU.out⟩
      case measure => simp [intOf]; omega
    · obtain rfl : j = k := by omega
      have HO : Hid (Own g N (addZ x y off j) wr) := hO
      have HU : Hid (Upd g w wr) := hU
      clear hO hU h h' hA hx hy hX
      go_wp2
      go_ret
      exact ⟨rfl, HO.out, HU.out⟩

theorem carryW_stop {x y : Nat → Int} (hx : Words x) {k : Nat} (zy : ∀ i, k ≤ i → y i = 0) {i : Nat} (hi : k ≤ i) (h0 : carryW x y i = 0) : ∀ j, i ≤ j → carryW x y j = 0 ∧ sumW x y j = x j := by
  have h1 : ∀ j, i ≤ j → carryW x y j = 0 := by
    intro j hj
    induction j with
    | zero => obtain rfl : i = 0 := by omega
              exact h0
    | succ j ih =>
      by_cases e : i = j + 1
      · rw [← e]; exact h0
      · have hb := hx j
        simp only [carryW]; rw [ih (by omega), zy j (by omega)]; omega
  intro j hj
  refine ⟨h1 j hj, ?_⟩
  have hb := hx j
  unfold sumW
  rw [h1 j hj, zy j (by omega)]; omega

set_option maxHeartbeats 1000000 in
theorem carryInto_any (g N k c : Nat) (x y : Nat → Int) (w : World) (hk : k ≤ N) (hN : N < 4294967296) (hx : Words x) (hy : Words y) (zy : ∀ i, k ≤ i → y i = 0) (hend : carryW x y N = 0) (h : Own g N (addZ x y 0 k) w) :
    Calls Tryz.prog 134 #[.slice (some ⟨g, k, none⟩) (N - k) c, .int .u64 (carryW x y k)] w fun e w' => e = .returned (.tuple #[]) ∧ Own g N (sumW x y) w' ∧ Upd g w w' := by
  have e0 : (fun i => x (0 + i)) = x := by funext i; rw [Nat.zero_add]
  go_enter Tryz.func134, Tryz.ntmps134
  go_wp2
  go_loopw [1, 4, 9] (fun cv i u9 wr => ∃ (j : Nat), k + j ≤ N ∧ i = .int .i64 j ∧ cv = .int .u64 (carryW x y (k + j)) ∧ Own g N (addZ x y 0 (k + j)) wr ∧ Upd g w wr) (fun _ i _ _ => N - (intOf i).toNat)
  case atStart => exact ⟨0, by omega, rfl, rfl, h, Upd.refl _ _⟩
  case round =>
    obtain ⟨j, hj, rfl, rfl, hO, hU⟩ := hrel
    have hcar := carryW_01 hx hy (k + j)
    by_cases hc0 : carryW x y (k + j) = 0
    · have HO : Hid (Own g N (sumW x y) wr) := hO.congr fun i hi => by
        unfold addZ
        by_cases e : 0 ≤ i ∧ i < 0 + (k + j)
        · rw [if_pos e, e0]; rfl
        · rw [if_neg e]; exact ((carryW_stop hx zy (by omega) hc0 i (by omega)).2).symm
      have HU : Hid (Upd g w wr) := hU
      rw [hc0]
      clear hO hU h hend hcar e0
      go_wp2
      go_end0
      exact ⟨rfl, HO.out, HU.out⟩
    · have hlt : k + j < N := by
        rcases Nat.lt_or_ge (k + j) N with h' | h'
        · exact h'
        · obtain e : k + j = N := by omega
          rw [e] at hc0; exact absurd hend hc0
      have hpos : 0 < carryW x y (k + j) := by omega
      have hji : (j : Int) < ((N - k : Nat) : Int) := by omega
      have hco := hO.cell (k + j) hlt
      have e1 : addZ x y 0 (k + j) (k + j) = x (k + j) := by have := addZ_at x y 0 (k + j); simpa using this
      rw [e1] at hco
      have hfo := hO.frozen (k + j)
      have bx := hx (k + j)
      have hs : sumW x y (k + j) = (x (k + j) + carryW x y (k + j)) % 18446744073709551616 := by unfold sumW; rw [zy _ (by omega), Int.add_zero]
      have hcn : carryW x y (k + (j + 1)) = (x (k + j) + carryW x y (k + j)) / 18446744073709551616 := by
        show (x (k + j) + y (k + j) + carryW x y (k + j)) / 18446744073709551616 = _
        rw [zy _ (by omega), Int.add_zero]
      have hadd := fun w => add64 (x (k + j)) 0 (carryW x y (k + j)) bx.1 (by decide) hcar.1 hcar.2 w
      have HO : Hid (Own g N (addZ x y 0 (k + (j + 1))) (wr.setCell ⟨g, k + j, none⟩ (.int .u64 (sumW x y (k + j))))) := (hO.set (k + j) _).congr fun i _ => by
        have := addZ_next x y 0 (k + j) i
        rw [e0, Nat.zero_add] at this
        exact this
      have HU : Hid (Upd g w (wr.setCell ⟨g, k + j, none⟩ (.int .u64 (sumW x y (k + j))))) := hU.set (k + j) _
      have HC : Hid (carryW x y (k + (j + 1)) = (x (k + j) + carryW x y (k + j)) / 18446744073709551616) := hcn
      rw [hs] at HO HU
      clear hO hU h hend hx hy zy hc0 e1 hs hcn e0
      go_wp2
      go_roundw
      case rel => exact ⟨j + 1, by omega, by go_num, by rw [HC.out], HO.out, HU.out⟩
      case measure => simp [intOf]; omega

theorem sum_end {x y : Nat → Int} {s s' N : Nat} (hx : Words x) (hy : Words y) (zx : ∀ i, s ≤ i → x i = 0) (zy : ∀ i, s' ≤ i → y i = 0) (h : s < N) (h' : s' < N) : carryW x y N = 0 := by
  obtain ⟨q, rfl⟩ : ∃ q, N = q + 1 := ⟨N - 1, by omega⟩
  have := carryW_01 hx hy q
  simp only [carryW]; rw [zx q (by omega), zy q (by omega)]; omega
/-- what is left behind the work: the sum, trimmed -/
theorem sum_num {x y : Nat → Int} {g N s s' : Nat} {w : World} (hx : Words x) (hy : Words y) (zx : ∀ i, s ≤ i → x i = 0) (zy : ∀ i, s' ≤ i → y i = 0) (h : s < N) (h' : s' < N) (hN : N < 4294967296) (hO : Own g N (sumW x y) w) :
    Num w (some ⟨g, 0, none⟩) N N (segW (sumW x y) 0 N) ∧ val (segW (sumW x y) 0 N) N = val x s + val y s' := by
  refine ⟨hO.num (sumW_words x y) 0 N N (by omega) (Nat.le_refl _) (by unfold maxLen; omega), ?_⟩
  rw [val_congr (x := segW (sumW x y) 0 N) (y := sumW x y) N fun i hi => by rw [segW_lt _ 0 N i hi, Nat.zero_add]]
  have e := sum_val (x := x) (y := y) N
  rw [sum_end hx hy zx zy h h', val_more zx N (by omega), val_more zy N (by omega)] at e
  omega

set_option maxHeartbeats 1000000 in
theorem nadd_any (a a' : Option Addr) (n c n' c' : Nat) (x y : Nat → Int) (w : World) (hn : n < 4000000000) (hn' : n' < 4000000000) (h : Num w a n c x) (h' : Num w a' n' c' y) :
    Calls Tryz.prog 104 #[.slice a n c, .slice a' n' c'] w fun e w' => ∃ g k cap z, e = .returned (.slice (some ⟨g, 0, none⟩) k cap) ∧ k ≤ max (sizeL x n) (sizeL y n') + 1 ∧ Num w' (some ⟨g, 0, none⟩) k cap z ∧ val z k = val x n + val y n' ∧ sizeL z k = k ∧ Below w.heap.size w w' := by
  have hb := bare_any a n c x w (by omega) h
  have hb' := bare_any a' n' c' y w (by omega) h'
  rw [← val_bare n, ← val_bare n']
  have hx := h.2.2.1
  have hy := h'.2.2.1
  have hle := sizeL_le x n
  have hle' := sizeL_le y n'
  have hN := h.bare
  have hN' := h'.bare
  generalize sizeL x n = s at *
  generalize sizeL y n' = s' at *
  clear h h'
  by_cases hlt : s < s'
  · have hlt' : (s : Int) < s' := by omega
    obtain ⟨N, hNs⟩ : ∃ N, s' + 1 = N := ⟨_, rfl⟩
    have hNi : (s' : Int) + 1 = N := by omega
    have hmk := fun w => make_any ((s' : Int) + 1) N hNi (by omega) w
    have hcp := fun ty => copy_num (N := N) (C := N) ty hN' (by omega)
    have hO := Own.new w y N
    have hA : Apart a w.heap.size := by
      intro p hp
      rcases hN.2.2.2.2 with ⟨h, _⟩ | ⟨b, off, h, hb, _⟩
      · rw [h] at hp; cases hp
      · rw [h] at hp; cases hp; exact Nat.ne_of_lt hb
    have hnS := hN.next (below1 w (.cells (arrOf y N) 23))
    have hai := fun wr hO hn => addInto_any w.heap.size N 0 N N s c a y x wr (by omega) (by omega) (by omega) hy hO hn hA
    rw [show (fun i => y (0 + i)) = y by funext i; rw [Nat.zero_add]] at hai
    have hci := fun wr hO => carryInto_any w.heap.size N s (N - s) y x wr (by omega) (by omega) hy hx hN.2.2.2.1 (sum_end hy hx hN'.2.2.2.1 hN.2.2.2.1 (by omega) (by omega)) hO
    have HSN : Hid (∀ w2, Own w.heap.size N (sumW y x) w2 → Num w2 (some ⟨w.heap.size, 0, none⟩) N N (segW (sumW y x) 0 N) ∧ val (segW (sumW y x) 0 N) N = val y s' + val x s) := fun w2 h2 => sum_num hy hx hN'.2.2.2.1 hN.2.2.2.1 (by omega) (by omega) (by omega) h2
    have HBW : Hid (Below w.heap.size w (w.alloc (.cells (arrOf y N) 23))) := below1 w _
    have hsN : (s : Int) ≤ N := by omega
    clear hN hN' hNi hA hx hy
    go_enter Tryz.func104, Tryz.ntmps104
    go_wp2_with (first | (go_at_call_of 100 (Value.slice a n c); refine hb.mono ?_; rintro e w' ⟨rfl, rfl⟩) | (go_at_call_of 100 (Value.slice a' n' c'); refine hb'.mono ?_; rintro e w' ⟨rfl, rfl⟩))
    generalize w.alloc (.cells (arrOf y N) 23) = wA at *
    go_region_with (first | (go_at_call 135; refine (hai wA.drew hO hnS).mono ?_; rintro e w1 ⟨rfl, hO1, hU1⟩) | (go_at_call 134; refine (hci _ hO1).mono ?_; rintro e w2 ⟨rfl, hO2, hU2⟩))
    have hsn := HSN.out w2 hO2
    have hbr := bare_any (some ⟨w.heap.size, 0, none⟩) N N (segW (sumW y x) 0 N) w2 (by omega) hsn.1
    have HN2 : Hid (Num w2 (some ⟨w.heap.size, 0, none⟩) (sizeL (segW (sumW y x) 0 N) N) N (segW (sumW y x) 0 N)) := hsn.1.bare
    have HV2 : Hid (val (segW (sumW y x) 0 N) (sizeL (segW (sumW y x) 0 N) N) = val y s' + val x s) := by show _ = _; rw [val_bare, hsn.2]
    have HS2 : Hid (sizeL (segW (sumW y x) 0 N) (sizeL (segW (sumW y x) 0 N) N) = sizeL (segW (sumW y x) 0 N) N) := sizeL_sizeL _ _
    have HLE : Hid (sizeL (segW (sumW y x) 0 N) N ≤ N) := sizeL_le _ _
    generalize segW (sumW y x) 0 N = z at *
    generalize sizeL z N = k at *
    have HB2 : Hid (Below w.heap.size w w2) := (HBW.out.drew.trans (hU1.below (Nat.le_refl _))).trans (hU2.below (Nat.le_refl _))
    clear hsn hO1 hO2 hU1 hU2 hO hnS hai hci hb hb'
    go_wp2_with (go_at_call 100; refine hbr.mono ?_; rintro e w3 ⟨rfl, rfl⟩)
    go_ret
    exact ⟨_, k, N, z, rfl, by have := HLE.out; omega, HN2.out, by rw [HV2.out]; omega, HS2.out, HB2.out⟩
  · have hlt' : ¬ (s : Int) < s' := by omega
    obtain ⟨N, hNs⟩ : ∃ N, s + 1 = N := ⟨_, rfl⟩
    have hNi : (s : Int) + 1 = N := by omega
    have hmk := fun w => make_any ((s : Int) + 1) N hNi (by omega) w
    have hcp := fun ty => copy_num (N := N) (C := N) ty hN (by omega)
    have hO := Own.new w x N
    have hA : Apart a' w.heap.size := by
      intro p hp
      rcases hN'.2.2.2.2 with ⟨h, _⟩ | ⟨b, off, h, hb, _⟩
      · rw [h] at hp; cases hp
      · rw [h] at hp; cases hp; exact Nat.ne_of_lt hb
    have hnS := hN'.next (below1 w (.cells (arrOf x N) 23))
    have hai := fun wr hO hn => addInto_any w.heap.size N 0 N N s' c' a' x y wr (by omega) (by omega) (by omega) hx hO hn hA
    rw [show (fun i => x (0 + i)) = x by funext i; rw [Nat.zero_add]] at hai
    have hci := fun wr hO => carryInto_any w.heap.size N s' (N - s') x y wr (by omega) (by omega) hx hy hN'.2.2.2.1 (sum_end hx hy hN.2.2.2.1 hN'.2.2.2.1 (by omega) (by omega)) hO
    have HSN : Hid (∀ w2, Own w.heap.size N (sumW x y) w2 → Num w2 (some ⟨w.heap.size, 0, none⟩) N N (segW (sumW x y) 0 N) ∧ val (segW (sumW x y) 0 N) N = val x s + val y s') := fun w2 h2 => sum_num hx hy hN.2.2.2.1 hN'.2.2.2.1 (by omega) (by omega) (by omega) h2
    have HBW : Hid (Below w.heap.size w (w.alloc (.cells (arrOf x N) 23))) := below1 w _
    have hsN : (s' : Int) ≤ N := by omega
    clear hN hN' hNi hA hx hy
    go_enter Tryz.func104, Tryz.ntmps104
    go_wp2_with (first | (go_at_call_of 100 (Value.slice a n c); refine hb.mono ?_; rintro e w' ⟨rfl, rfl⟩) | (go_at_call_of 100 (Value.slice a' n' c'); refine hb'.mono ?_; rintro e w' ⟨rfl, rfl⟩))
    generalize w.alloc (.cells (arrOf x N) 23) = wA at *
    go_region_with (first | (go_at_call 135; refine (hai wA.drew hO hnS).mono ?_; rintro e w1 ⟨rfl, hO1, hU1⟩) | (go_at_call 134; refine (hci _ hO1).mono ?_; rintro e w2 ⟨rfl, hO2, hU2⟩))
    have hsn := HSN.out w2 hO2
    have hbr := bare_any (some ⟨w.heap.size, 0, none⟩) N N (segW (sumW x y) 0 N) w2 (by omega) hsn.1
    have HN2 : Hid (Num w2 (some ⟨w.heap.size, 0, none⟩) (sizeL (segW (sumW x y) 0 N) N) N (segW (sumW x y) 0 N)) := hsn.1.bare
    have HV2 : Hid (val (segW (sumW x y) 0 N) (sizeL (segW (sumW x y) 0 N) N) = val x s + val y s') := by show _ = _; rw [val_bare, hsn.2]
    have HS2 : Hid (sizeL (segW (sumW x y) 0 N) (sizeL (segW (sumW x y) 0 N) N) = sizeL (segW (sumW x y) 0 N) N) := sizeL_sizeL _ _
    have HLE : Hid (sizeL (segW (sumW x y) 0 N) N ≤ N) := sizeL_le _ _
    generalize segW (sumW x y) 0 N = z at *
    generalize sizeL z N = k at *
    have HB2 : Hid (Below w.heap.size w w2) := (HBW.out.drew.trans (hU1.below (Nat.le_refl _))).trans (hU2.below (Nat.le_refl _))
    clear hsn hO1 hO2 hU1 hU2 hO hnS hai hci hb hb'
    go_wp2_with (go_at_call 100; refine hbr.mono ?_; rintro e w3 ⟨rfl, rfl⟩)
    go_ret
    exact ⟨_, k, N, z, rfl, by have := HLE.out; omega, HN2.out, by rw [HV2.out], HS2.out, HB2.out⟩
end
theorem bor_val {x y b : Int} (hx : 0 ≤ x ∧ x ≤ 18446744073709551615) (hy : 0 ≤ y ∧ y ≤ 18446744073709551615) (hb : 0 ≤ b ∧ b ≤ 1) : (x - y - b) % 18446744073709551616 - bor x y b * 18446744073709551616 = x - y - b := by
  unfold bor; split <;> omega
theorem dif_val {x y : Nat → Int} (hx : Words x) (hy : Words y) : ∀ n, val (difW x y) n - borW x y n * 18446744073709551616 ^ n = val x n - val y n
  | 0 => by simp [val, borW]
  | n + 1 => by
    have ih := dif_val hx hy n
    have h := bor_val (hx n) (hy n) (borW_01 x y n)
    show val (difW x y) n + difW x y n * 18446744073709551616 ^ n - bor (x n) (y n) (borW x y n) * 18446744073709551616 ^ (n + 1) = val x n + x n * 18446744073709551616 ^ n - (val y n + y n * 18446744073709551616 ^ n)
    have hd : difW x y n = (x n - y n - borW x y n) % 18446744073709551616 := rfl
    rw [← hd] at h
    rw [Int.pow_succ]
    generalize (18446744073709551616 : Int) ^ n = P at *
    grind
/-- no borrow is left over where y is no greater -/
theorem borW_end {x y : Nat → Int} (hx : Words x) (hy : Words y) {n : Nat} (h : val y n ≤ val x n) : borW x y n = 0 := by
  have e := dif_val hx hy n
  have h1 := val_bd (difW_words x y) n
  have h2 := borW_01 x y n
  have h3 := pw_pos n
  by_cases h0 : borW x y n = 0
  · exact h0
  · have : borW x y n = 1 := by omega
    rw [this] at e; omega
section
set_option maxHeartbeats 400000 in
theorem nlen_any (a : Option Addr) (n c : Nat) (x : Nat → Int) (w : World) (hn : n < 100000000) (h : Num w a n c x) :
    Calls Tryz.prog 55 #[.slice a n c] w fun e w' => e = .returned (.int .i64 (lenL x n)) ∧ w = w' := by
  have hb := bare_any a n c x w (by omega) h
  have hle := sizeL_le x n
  by_cases h0 : sizeL x n = 0
  · have HL : Hid (lenL x n = 0) := by show _ = _; simp [lenL, h0]
    rw [h0] at hb
    clear h0 h
    go_enter Tryz.func55, Tryz.ntmps55
    go_wp2_with (go_at_call 100; refine hb.mono ?_; rintro e w' ⟨rfl, rfl⟩)
    go_ret
    exact ⟨ret_int HL.out.symm, rfl⟩
  · obtain ⟨j, hj⟩ : ∃ j, sizeL x n = j + 1 := ⟨sizeL x n - 1, by omega⟩
    have HL : Hid (lenL x n = 64 * (j : Int) + Lib.bitLen (x j).toNat) := by show _ = _; simp [lenL, hj]; omega
    obtain ⟨b, off, rfl, hbs, hc⟩ := h.cells (by omega)
    rw [hj] at hb
    have hcj := hc j (by omega)
    have hbx := h.2.2.1 j
    have hbl := bitLen64 (x j).toNat
    have hj' : j + 1 ≤ n := by omega
    clear h0 hc hj hle h
    have hcl := Tryz.bits_Len64 (x j) w hbx.1 hbx.2
    generalize Lib.bitLen (x j).toNat = L at *
    go_enter Tryz.func55, Tryz.ntmps55
    go_wp2_with (first | (go_at_call 100; refine hb.mono ?_; rintro e w' ⟨rfl, rfl⟩) | (go_at_call 74; refine hcl.mono ?_; rintro e w' ⟨rfl, rfl⟩))
    go_ret
    exact ⟨ret_int (by rw [HL.out]; omega), rfl⟩
set_option maxHeartbeats 400000 in
theorem rlen_nil (w : World) : Calls Tryz.prog 33 #[.slice none 0 0] w fun e w' => e = .returned (.int .i64 0) ∧ w = w' := by
  have hs := size_nil w
  go_enter Tryz.func33, Tryz.ntmps33
  go_wp2_with (go_at_call 16; refine hs.mono ?_; rintro e w' ⟨rfl, rfl⟩)
  go_ret
  exact ⟨rfl, rfl⟩
theorem rlen_num (a : Option Addr) (n c : Nat) (x : Nat → Int) (w : World) (hn : n < 100000000) (h : Num w a n c x) :
    Calls Tryz.prog 33 #[.slice a n c] w fun e w' => e = .returned (.int .i64 (lenL x n)) ∧ w = w' := by
  have h' := h
  obtain ⟨h1, h2, h3, h4, h5⟩ := h'
  rcases h5 with ⟨rfl, rfl⟩ | ⟨b, off, rfl, hb, hc⟩
  · obtain rfl : n = 0 := by omega
    exact rlen_nil w
  · exact (len_any b off n c x w hn h3 hc).mono fun e w' hw => ⟨hw.1, hw.2.symm⟩
theorem radd_val (a a' : Option Addr) (n c n' c' : Nat) (x y : Nat → Int) (w : World) (hn : n < 4000000000) (hn' : n' < 4000000000) (h : Num w a n c x) (h' : Num w a' n' c' y) :
    Calls Tryz.prog 73 #[.slice a n c, .slice a' n' c'] w fun e w' => ∃ g k cap z, e = .returned (.slice (some ⟨g, 0, none⟩) k cap) ∧ k ≤ max n n' + 1 ∧ Num w' (some ⟨g, 0, none⟩) k cap z ∧ val z k = val x n + val y n' ∧ Below w.heap.size w w' := by
  refine (radd_any a a' n c n' c' x y w (by omega) (by omega) h h').mono fun e w' ⟨g, k, cap, e1, hk, hN, hB⟩ => ⟨g, k, cap, _, e1, hk, hN, ?_, hB⟩
  have e := sum_val (x := x) (y := y) (max n n' + 1)
  rw [sum_end h.2.2.1 h'.2.2.1 h.2.2.2.1 h'.2.2.2.1 (by omega) (by omega), val_more h.2.2.2.1 _ (by omega), val_more h'.2.2.2.1 _ (by omega), val_more hN.2.2.2.1 _ hk] at e
  omega
end
theorem ncmp_b (a a' : Option Addr) (n c n' c' : Nat) (x y : Nat → Int) (w : World) (hn : n < 4294967296) (hn' : n' < 4294967296) (h : Num w a n c x) (h' : Num w a' n' c' y) :
    Calls Tryz.prog 99 #[.slice a n c, .slice a' n' c'] w fun e w' => e = .returned (.int .i64 (sgn (val x n) (val y n'))) ∧ Below w.heap.size w w' :=
  (ncmp_any a a' n c n' c' x y w hn hn' h h').mono fun e w' ⟨h1, m, hm⟩ => ⟨h1, hm ▸ below_drewN (Below.refl _ _) m⟩
theorem num_none (w : World) : Num w none 0 0 (fun _ => 0) := ⟨Nat.le_refl _, by unfold maxLen; omega, fun _ => (by decide : (0 : Int) ≤ 0 ∧ (0 : Int) ≤ 18446744073709551615), fun _ _ => rfl, Or.inl ⟨rfl, rfl⟩⟩
section
set_option maxHeartbeats 1000000 in
theorem mulAdd_any (a n z C : Int) (w : World) (ha : 0 ≤ a ∧ a ≤ 18446744073709551615) (hn : 0 ≤ n ∧ n ≤ 18446744073709551615) (hz : 0 ≤ z ∧ z ≤ 18446744073709551615) (hC : 0 ≤ C ∧ C ≤ 18446744073709551615) :
    Calls Tryz.prog 146 #[.int .u64 a, .int .u64 n, .int .u64 z, .int .u64 C] w fun e w' => ∃ l h, e = .returned (.tuple #[.int .u64 l, .int .u64 h]) ∧ l + h * 18446744073709551616 = a * n + z + C ∧ (0 ≤ l ∧ l ≤ 18446744073709551615) ∧ (0 ≤ h ∧ h ≤ 18446744073709551615) ∧ w = w' := by
  have hms := mul_step a n z C ha hn hz hC
  have hmul := mul64 a n ha hn w
  have hL0 : 0 ≤ a * n % 18446744073709551616 := Int.emod_nonneg _ (by decide)
  have hA1 := fun w => add64z (a * n % 18446744073709551616) z hL0 hz.1 w
  have hs0 : 0 ≤ (a * n % 18446744073709551616 + z) % 18446744073709551616 := Int.emod_nonneg _ (by decide)
  have hA2 := fun w => add64z ((a * n % 18446744073709551616 + z) % 18446744073709551616) C hs0 hC.1 w
  have ht0 : 0 ≤ ((a * n % 18446744073709551616 + z) % 18446744073709551616 + C) % 18446744073709551616 ∧ ((a * n % 18446744073709551616 + z) % 18446744073709551616 + C) % 18446744073709551616 ≤ 18446744073709551615 := by omega
  generalize ((a * n % 18446744073709551616 + z) % 18446744073709551616 + C) % 18446744073709551616 = t2 at *
  generalize ((a * n % 18446744073709551616 + z) % 18446744073709551616 + C) / 18446744073709551616 = f2 at *
  generalize (a * n % 18446744073709551616 + z) % 18446744073709551616 = t1 at *
  generalize (a * n % 18446744073709551616 + z) / 18446744073709551616 = f1 at *
  generalize a * n % 18446744073709551616 = lo at *
  generalize a * n / 18446744073709551616 = hi at *
  have HMS : Hid (t2 + (hi + f1 + f2) * 18446744073709551616 = a * n + z + C) := hms.1
  have hb1 : 0 ≤ hi + f1 := hms.2.1
  have hb2 : hi + f1 ≤ 18446744073709551615 := hms.2.2.1
  have hb3 : 0 ≤ hi + f1 + f2 := hms.2.2.2.1
  have hb4 : hi + f1 + f2 ≤ 18446744073709551615 := hms.2.2.2.2
  clear hms
  go_enter Tryz.func146, Tryz.ntmps146
  go_wp2_with (go_at_call 109; refine hmul.mono ?_; rintro e w' ⟨rfl, rfl⟩)
  go_ret2
  exact ⟨t2, hi + f1 + f2, rfl, HMS.out, ht0, ⟨hb3, hb4⟩, rfl⟩

set_option maxHeartbeats 1000000 in
theorem addProduct_any (g N off m c k c' : Nat) (a' : Option Addr) (x y : Nat → Int) (n : Int) (w : World) (hm : off + m ≤ N) (hN : N < 4294967296) (hk : k ≤ m) (hx : Words x) (hn : 0 ≤ n ∧ n ≤ 18446744073709551615) (h : Own g N x w) (h' : Num w a' k c' y) (hA : Apart a' g) :
    Calls Tryz.prog 120 #[.slice (some ⟨g, off, none⟩) m c, .slice a' k c', .int .u64 n] w fun e w' => ∃ C z, e = .returned (.int .u64 C) ∧ (0 ≤ C ∧ C ≤ 18446744073709551615) ∧ Own g N z w' ∧ Words z ∧ val z N + C * 18446744073709551616 ^ (off + k) = val x N + n * val y k * 18446744073709551616 ^ off ∧ (∀ i, off + k ≤ i → z i = x i) ∧ Upd g w w' := by
  have hy := h'.2.2.1
  go_enter Tryz.func120, Tryz.ntmps120
  go_wp2
  go_loopw [7, 8, 9, 12, 17] (fun cv u8 u9 i u17 wr => ∃ (j : Nat) (C : Int) (z : Nat → Int), j ≤ k ∧ i = .int .i64 j ∧ cv = .int .u64 C ∧ (0 ≤ C ∧ C ≤ 18446744073709551615) ∧ Own g N z wr ∧ Words z ∧ Hid (val z N + C * 18446744073709551616 ^ (off + j) = val x N + n * val y j * 18446744073709551616 ^ off) ∧ (∀ i, off + j ≤ i → z i = x i) ∧ Upd g w wr) (fun _ _ _ i _ _ => k - (intOf i).toNat)
  case atStart => exact ⟨0, 0, x, Nat.zero_le _, rfl, rfl, by decide, h, hx, by show _ = _; simp [val], fun _ _ => rfl, Upd.refl _ _⟩
  case round =>
    obtain ⟨j, C, z, hj, rfl, rfl, hCb, hO, hzw, hv, hzx, hU⟩ := hrel
    by_cases hlt : j < k
    · have hji : (j : Int) < k := by omega
      have hjm : (j : Int) < m := by omega
      obtain ⟨b, off', rfl, hb, hc⟩ := (hU.num' hA h').cells (by omega)
      have hcj := hc j hlt
      have hco := hO.cell (off + j) (by omega)
      have hfo := hO.frozen (off + j)
      have hma := fun w => mulAdd_any (y j) n (z (off + j)) C w (hy j) hn (hzw (off + j)) hCb
      have HO : Hid (Own g N z wr) := hO
      have HU : Hid (Upd g w wr) := hU
      have HZW : Hid (Words z) := hzw
      have HZX : Hid (∀ i, off + j ≤ i → z i = x i) := hzx
      clear hO hU hc h h' hA hx hy hzw hzx
      go_wp2_with (go_at_call 146; refine (hma _).mono ?_; rintro e w1 ⟨l, hi, rfl, hlh, hlb, hhb, rfl⟩)
      go_roundw
      case rel =>
        refine ⟨j + 1, hi, fun i => if i = off + j then l else z i, by omega, by go_num, rfl, hhb, HO.out.set (off + j) l, upd_words HZW.out hlb, ?_, ?_, HU.out.set (off + j) _⟩
        · show _ = _
          rw [val_set z (off + j) l N (by omega)]
          exact mul_inner _ _ _ _ _ _ _ _ _ off j hv.out (by rw [hlh, Int.mul_comm (y j) n])
        · intro i hi2
          exact (if_neg (show ¬ i = off + j by omega)).trans (HZX.out i (by omega))
      case measure => simp [intOf]; omega
    · obtain rfl : j = k := by omega
      have HO : Hid (Own g N z wr) := hO
      have HU : Hid (Upd g w wr) := hU
      have HZW : Hid (Words z) := hzw
      have HZX : Hid (∀ i, off + j ≤ i → z i = x i) := hzx
      clear hO hU h h' hA hx hy hzw hzx
      go_wp2
      go_ret
      exact ⟨C, z, rfl, hCb, HO.out, HZW.out, hv.out, HZX.out, HU.out⟩

theorem apart_of {w : World} {a : Option Addr} {n c : Nat} {x : Nat → Int} (h : Num w a n c x) : Apart a w.heap.size := by
  intro p hp
  rcases h.2.2.2.2 with ⟨h, _⟩ | ⟨b, off, h, hb, _⟩
  · rw [h] at hp; cases hp
  · rw [h] at hp; cases hp; exact Nat.ne_of_lt hb
theorem val_zero : ∀ m, val (fun _ => 0) m = 0 := by intro m; induction m with | zero => rfl | succ m ih => simp only [val]; rw [ih]; simp

set_option maxHeartbeats 2000000 in
theorem nmul_any (a a' : Option Addr) (n c n' c' : Nat) (x y : Nat → Int) (w : World) (hn : n < 4000000000) (hn' : n' < 4000000000) (h : Num w a n c x) (h' : Num w a' n' c' y) (hs : sizeL x n + sizeL y n' ≤ 2000) :
    Calls Tryz.prog 88 #[.slice a n c, .slice a' n' c'] w fun e w' => ∃ g k cap z, e = .returned (.tuple #[.slice (some ⟨g, 0, none⟩) k cap, .int .i64 0]) ∧ k ≤ sizeL x n + sizeL y n' ∧ Num w' (some ⟨g, 0, none⟩) k cap z ∧ val z k = val x n * val y n' ∧ sizeL z k = k ∧ Below w.heap.size w w' := by
  have hb := bare_any a n c x w (by omega) h
  have hb' := bare_any a' n' c' y w (by omega) h'
  rw [← val_bare n, ← val_bare n']
  have hx := h.2.2.1
  have hy := h'.2.2.1
  have hle := sizeL_le x n
  have hle' := sizeL_le y n'
  have hN := h.bare
  have hN' := h'.bare
  generalize sizeL x n = s at *
  generalize sizeL y n' = s' at *
  clear h h'
  obtain ⟨N, hNs⟩ : ∃ N, s + s' = N := ⟨_, rfl⟩
  have hNi : (s : Int) + s' = N := by omega
  have hmk := fun w => make_any ((s : Int) + s') N hNi (by omega) w
  have hN2 : (s : Int) + s' ≤ 2000 := by omega
  have HNS : Hid (s + s' = N) := hNs
  have hA := apart_of hN
  have hA' := apart_of hN'
  have hO := Own.new w (fun _ => 0) N
  have hBW := below1 w (.cells (arrOf (fun _ => 0) N) 23)
  have hnx := hN.next hBW
  have hny := hN'.next hBW
  have hap := fun wr z off hO hzw hU (hoff : off + s ≤ N) n hn => addProduct_any w.heap.size N off (N - off) (N - off) s c a z x n wr (by omega) (by omega) (by omega) hzw hn hO (Upd.num' (w := w.alloc (.cells (arrOf (fun _ => 0) N) 23)) hU hA hnx) hA
  have HBW : Hid (Below w.heap.size w (w.alloc (.cells (arrOf (fun _ => 0) N) 23))) := hBW
  clear hBW hN hN' hNi hNs
  go_enter Tryz.func88, Tryz.ntmps88
  go_wp2_with (first | (go_at_call_of 100 (Value.slice a n c); refine hb.mono ?_; rintro e w' ⟨rfl, rfl⟩) | (go_at_call_of 100 (Value.slice a' n' c'); refine hb'.mono ?_; rintro e w' ⟨rfl, rfl⟩))
  generalize w.alloc (.cells (arrOf (fun _ => 0) N) 23) = wA at *
  go_loopw [9, 10, 29] (fun u9 u10 i wr => ∃ (j : Nat) (z : Nat → Int), j ≤ s' ∧ i = .int .i64 j ∧ Own w.heap.size N z wr ∧ Words z ∧ (∀ q, s + j ≤ q → z q = 0) ∧ Hid (val z N = val x s * val y j) ∧ Upd w.heap.size wA wr) (fun _ _ i _ => s' - (intOf i).toNat)
  case atStart => exact ⟨0, fun _ => 0, Nat.zero_le _, rfl, hO, fun _ => (by decide : (0 : Int) ≤ 0 ∧ (0 : Int) ≤ 18446744073709551615), fun _ _ => rfl, by show _ = _; rw [val_zero]; simp [val], Upd.refl _ _⟩
  case round =>
    clear hO
    obtain ⟨j, z, hj, rfl, hO, hzw, hz0, hv, hU⟩ := hrel
    by_cases hlt : j < s'
    · have hji : (j : Int) < s' := by omega
      obtain ⟨b, off', rfl, hbb, hc⟩ := (hU.num' hA' hny).cells (by omega)
      have hcj := hc j hlt
      have hap1 := hap wr z j hO hzw hU (by have := HNS.out; omega) (y j) (hy j)
      have hjN : (j : Int) ≤ N := by have := HNS.out; omega
      have hjs : (j : Int) + s < N := by have := HNS.out; omega
      have e1 : ((j : Int) + s).toNat = j + s := by omega
      have HU : Hid (Upd w.heap.size wA wr) := hU
      have HZ0 : Hid (∀ q, s + j ≤ q → z q = 0) := hz0
      clear hO hU hc hzw hz0 hap hx hy hA hA' hnx hny
      go_wp2_with (go_at_call 120; refine hap1.mono ?_; rintro e w1 ⟨C, z1, rfl, hCb, hO1, hw1, hv1, hzx1, hU1⟩; have hc1 := hO1.cell (j + s) (by have := HNS.out; omega); have hf1 := hO1.frozen (j + s))
      go_roundw
      case rel =>
        have e2 : z1 (j + s) = 0 := by rw [hzx1 (j + s) (Nat.le_refl _)]; exact HZ0.out _ (by omega)
        refine ⟨j + 1, fun i => if i = j + s then C else z1 i, by omega, by go_num, hO1.set (j + s) C, upd_words hw1 hCb, ?_, ?_, (HU.out.trans hU1).set (j + s) _⟩
        · intro q hq
          exact (if_neg (show ¬ q = j + s by omega)).trans ((hzx1 q (by omega)).trans (HZ0.out q (by omega)))
        · show _ = _
          rw [val_set z1 (j + s) C N (by have := HNS.out; omega), e2, Int.sub_zero, hv1, hv.out]
          show _ = val x s * (val y j + y j * 18446744073709551616 ^ j)
          generalize (18446744073709551616 : Int) ^ j = P
          grind
      case measure => simp [intOf]; omega
    · obtain rfl : j = s' := by omega
      have hN2' := hO.num hzw 0 N N (by omega) (Nat.le_refl _) (by unfold maxLen; have := HNS.out; omega)
      have hbr := bare_any (some ⟨w.heap.size, 0, none⟩) N N (segW z 0 N) wr (by have := HNS.out; omega) hN2'
      have HN2 : Hid (Num wr (some ⟨w.heap.size, 0, none⟩) (sizeL (segW z 0 N) N) N (segW z 0 N)) := hN2'.bare
      have HV2 : Hid (val (segW z 0 N) (sizeL (segW z 0 N) N) = val x s * val y j) := by
        show _ = _
        rw [val_bare, val_congr (x := segW z 0 N) (y := z) N fun i hi => by rw [segW_lt _ 0 N i hi, Nat.zero_add], hv.out]
      have HS2 : Hid (sizeL (segW z 0 N) (sizeL (segW z 0 N) N) = sizeL (segW z 0 N) N) := sizeL_sizeL _ _
      have HLE : Hid (sizeL (segW z 0 N) N ≤ N) := sizeL_le _ _
      generalize segW z 0 N = z2 at *
      generalize sizeL z2 N = k at *
      have HB2 : Hid (Below w.heap.size w wr) := HBW.out.trans (hU.below (Nat.le_refl _))
      clear hO hU hN2' hx hy hzw hz0 hap hA hA' hnx hny
      go_wp2_with (go_at_call 100; refine hbr.mono ?_; rintro e w3 ⟨rfl, rfl⟩)
      go_ret2
      exact ⟨_, k, N, z2, rfl, by rw [HNS.out]; exact HLE.out, HN2.out, HV2.out, HS2.out, HB2.out⟩
set_option maxHeartbeats 400000 in
theorem nmul_long (a a' : Option Addr) (n c n' c' : Nat) (x y : Nat → Int) (w : World) (hn : n < 4000000000) (hn' : n' < 4000000000) (h : Num w a n c x) (h' : Num w a' n' c' y) (hs : 2000 < sizeL x n + sizeL y n') :
    Calls Tryz.prog 88 #[.slice a n c, .slice a' n' c'] w fun e w' => e = .returned (.tuple #[.slice none 0 0, .int .i64 4]) ∧ w = w' := by
  have hb := bare_any a n c x w (by omega) h
  have hb' := bare_any a' n' c' y w (by omega) h'
  have hle := sizeL_le x n
  have hle' := sizeL_le y n'
  have hs' : (2000 : Int) < (sizeL x n : Int) + sizeL y n' := by omega
  generalize sizeL x n = s at *
  generalize sizeL y n' = s' at *
  clear h h'
  go_enter Tryz.func88, Tryz.ntmps88
  go_wp2_with (first | (go_at_call_of 100 (Value.slice a n c); refine hb.mono ?_; rintro e w' ⟨rfl, rfl⟩) | (go_at_call_of 100 (Value.slice a' n' c'); refine hb'.mono ?_; rintro e w' ⟨rfl, rfl⟩))
  go_ret2
  exact ⟨rfl, rfl⟩

def mulE (s s' : Nat) : Int := if 2000 < s + s' then 4 else 0
def mulV (s s' : Nat) (V W : Int) : Int := if 2000 < s + s' then 0 else V * W
theorem nmul_all (a a' : Option Addr) (n c n' c' : Nat) (x y : Nat → Int) (w : World) (hn : n < 4000000000) (hn' : n' < 4000000000) (h : Num w a n c x) (h' : Num w a' n' c' y) :
    Calls Tryz.prog 88 #[.slice a n c, .slice a' n' c'] w fun e w' => ∃ o k cap z, e = .returned (.tuple #[.slice o k cap, .int .i64 (mulE (sizeL x n) (sizeL y n'))]) ∧ k ≤ 2000 ∧ Num w' o k cap z ∧ val z k = mulV (sizeL x n) (sizeL y n') (val x n) (val y n') ∧ sizeL z k = k ∧ Below w.heap.size w w' := by
  by_cases hs : 2000 < sizeL x n + sizeL y n'
  · refine (nmul_long a a' n c n' c' x y w hn hn' h h' hs).mono fun e w' hw => ⟨none, 0, 0, _, ?_, Nat.zero_le _, num_none w', ?_, rfl, hw.2 ▸ Below.refl _ _⟩
    · rw [hw.1]; unfold mulE; rw [if_pos hs]
    · unfold mulV; rw [if_pos hs]; rfl
  · refine (nmul_any a a' n c n' c' x y w hn hn' h h' (by omega)).mono fun e w' ⟨g, k, cap, z, e1, hk, hN, hv1, hs1, hB⟩ => ⟨_, k, cap, z, ?_, by omega, hN, ?_, hs1, hB⟩
    · rw [e1]; unfold mulE; rw [if_neg hs]
    · rw [hv1]; unfold mulV; rw [if_neg hs]
end
theorem wrap_mod (a : Int) : IntKind.u64.wrap a = a % 18446744073709551616 := by
  simp only [IntKind.wrap, IntKind.bits, IntKind.signed]
  simp
theorem p2_pos (n : Nat) : (0 : Int) < 2 ^ n := Int.pow_pos (by decide)
theorem p2_split {r : Nat} (hr : r ≤ 64) : (2 : Int) ^ (64 - r) * 2 ^ r = 18446744073709551616 := by
  rw [← Int.pow_add, show 64 - r + r = 64 by omega]; rfl
/-- what goes beyond a word that is shifted by r -/
def hiW (x : Int) (r : Nat) : Int := x * 2 ^ r / 18446744073709551616
theorem hiW_eq (x : Int) {r : Nat} (hr : r ≤ 64) : x / 2 ^ (64 - r) = hiW x r := by
  unfold hiW
  rw [← p2_split hr, Int.mul_ediv_mul_of_pos_left _ _ (p2_pos r)]
theorem hiW_bd {x : Int} (hx : 0 ≤ x ∧ x ≤ 18446744073709551615) (r : Nat) : 0 ≤ hiW x r ∧ hiW x r < 2 ^ r := by
  have hp := p2_pos r
  unfold hiW
  refine ⟨Int.ediv_nonneg (Int.mul_nonneg hx.1 (by omega)) (by decide), Int.ediv_lt_of_lt_mul (by decide) ?_⟩
  rw [Int.mul_comm (2 ^ r)]
  exact Int.mul_lt_mul_of_pos_right (by omega) hp
theorem p2_le {r : Nat} (hr : r < 64) : (2 : Int) ^ r ≤ 9223372036854775808 := by
  have h := p2_split (show r ≤ 64 by omega)
  have h1 : (2 : Int) ^ (64 - r) = 2 ^ (63 - r) * 2 := by rw [← Int.pow_succ]; congr 1; omega
  have h2 := p2_pos (63 - r)
  rw [h1] at h
  have : (1 : Int) * (2 * 2 ^ r) ≤ 2 ^ (63 - r) * (2 * 2 ^ r) := Int.mul_le_mul_of_nonneg_right (by omega) (by have := p2_pos r; omega)
  rw [← Int.mul_assoc] at this
  have e : (2 : Int) ^ (63 - r) * (2 * 2 ^ r) = 18446744073709551616 := by rw [← Int.mul_assoc]; exact h
  omega
/-- the two parts of a shifted word have no bit in common -/
theorem or_shl {y b : Int} {r : Nat} (hr : r < 64) (hy : 0 ≤ y) (hb : 0 ≤ b ∧ b < 2 ^ r) : orW b (IntKind.u64.wrap (y * 2 ^ r)) = y * 2 ^ r % 18446744073709551616 + b := by
  have hle := p2_le hr
  have hp := p2_pos r
  have hme : y * 2 ^ r % (2 ^ (64 - r) * 2 ^ r) = y % 2 ^ (64 - r) * 2 ^ r := by
    have := Int.mul_emod_mul_of_pos y (2 ^ (64 - r)) hp
    rw [Int.mul_comm y, Int.mul_comm (2 ^ (64 - r)), this, Int.mul_comm]
  rw [orW_eq b _ (by omega) (wrap_word _), wrap_mod, ← p2_split (show r ≤ 64 by omega), hme]
  have hm0 := Int.emod_nonneg y (show (2 : Int) ^ (64 - r) ≠ 0 by have := p2_pos (64 - r); omega)
  obtain ⟨u, hu⟩ := Int.eq_ofNat_of_zero_le hm0
  obtain ⟨b', rfl⟩ := Int.eq_ofNat_of_zero_le hb.1
  rw [hu]
  have e1 : ((u : Int) * 2 ^ r).toNat = 2 ^ r * u := by
    have : ((u : Int) * 2 ^ r) = ((2 ^ r * u : Nat) : Int) := by rw [Int.natCast_mul, powCast, Int.mul_comm]
    rw [this]; exact Int.toNat_natCast _
  have hb2 : b' < 2 ^ r := by
    have h := hb.2
    rw [← powCast] at h; omega
  rw [e1, Int.toNat_natCast, Nat.or_comm, ← Nat.two_pow_add_eq_or_of_lt hb2]
  rw [Int.natCast_add, Int.natCast_mul, powCast, Int.mul_comm]
/-- what comes in from the word below -/
def prevW (x : Nat → Int) (r i : Nat) : Int := if i = 0 then 0 else hiW (x (i - 1)) r
/-- the words of x times 2^r -/
def shW (x : Nat → Int) (r i : Nat) : Int := x i * 2 ^ r % 18446744073709551616 + prevW x r i
theorem prevW_bd {x : Nat → Int} (hx : Words x) (r i : Nat) : 0 ≤ prevW x r i ∧ prevW x r i < 2 ^ r := by
  unfold prevW; split
  · have := p2_pos r; omega
  · exact hiW_bd (hx _) r
theorem shW_or {x : Nat → Int} (hx : Words x) {r : Nat} (hr : r < 64) (i : Nat) : orW (prevW x r i) (IntKind.u64.wrap (x i * 2 ^ r)) = shW x r i := or_shl hr (hx i).1 (prevW_bd hx r i)
theorem prevW_word {x : Nat → Int} (hx : Words x) {r : Nat} (hr : r < 64) (i : Nat) : 0 ≤ prevW x r i ∧ prevW x r i ≤ 18446744073709551615 := by
  have := prevW_bd hx r i
  have := p2_le hr
  omega
theorem shW_words {x : Nat → Int} (hx : Words x) {r : Nat} (hr : r < 64) : Words (shW x r) := fun i => by
  rw [← shW_or hx hr i]; exact orW_word _ _ (prevW_word hx hr i) (wrap_word _)
theorem sh_val (x : Nat → Int) (r : Nat) : ∀ m, val (shW x r) m + prevW x r m * 18446744073709551616 ^ m = val x m * 2 ^ r
  | 0 => by simp [val, prevW]
  | m + 1 => by
    have ih := sh_val x r m
    show val (shW x r) m + shW x r m * 18446744073709551616 ^ m + prevW x r (m + 1) * 18446744073709551616 ^ (m + 1) = (val x m + x m * 18446744073709551616 ^ m) * 2 ^ r
    have e1 : prevW x r (m + 1) = x m * 2 ^ r / 18446744073709551616 := rfl
    have e2 : shW x r m = x m * 2 ^ r % 18446744073709551616 + prevW x r m := rfl
    have e3 := Int.emod_add_mul_ediv (x m * 2 ^ r) 18446744073709551616
    rw [e1, e2, Int.pow_succ]
    generalize x m * 2 ^ r / 18446744073709551616 = K at *
    generalize x m * 2 ^ r % 18446744073709551616 = R at *
    generalize (18446744073709551616 : Int) ^ m = P at *
    grind
theorem sh_end {x : Nat → Int} {n : Nat} (zx : ∀ i, n ≤ i → x i = 0) (r m : Nat) (h : n < m) : val (shW x r) m = val x n * 2 ^ r := by
  have e := sh_val x r m
  have e1 : prevW x r m = 0 := by
    unfold prevW hiW; rw [if_neg (by omega), zx (m - 1) (by omega)]; simp
  rw [e1, val_more zx m (by omega)] at e
  omega
/-- words that are moved up by q -/
def upW (f : Nat → Int) (q j : Nat) : Int := if q ≤ j then f (j - q) else 0
theorem val_up (f : Nat → Int) (q : Nat) : ∀ m, val (upW f q) (q + m) = val f m * 18446744073709551616 ^ q
  | 0 => by
    have : ∀ k, k ≤ q → val (upW f q) k = 0 := by
      intro k
      induction k with
      | zero => intro _; rfl
      | succ k ih =>
        intro hk
        show val (upW f q) k + upW f q k * 18446744073709551616 ^ k = 0
        rw [ih (by omega)]
        unfold upW; rw [if_neg (by omega)]; simp
    rw [Nat.add_zero, this q (Nat.le_refl _)]; simp [val]
  | m + 1 => by
    have ih := val_up f q m
    show val (upW f q) (q + m) + upW f q (q + m) * 18446744073709551616 ^ (q + m) = (val f m + f m * 18446744073709551616 ^ m) * 18446744073709551616 ^ q
    rw [ih]
    have e : upW f q (q + m) = f m := by unfold upW; rw [if_pos (by omega)]; congr 1; omega
    rw [e, Int.pow_add]
    generalize (18446744073709551616 : Int) ^ m = P
    generalize (18446744073709551616 : Int) ^ q = Q
    grind
theorem finL_up {x : Nat → Int} (hx : Words x) (q : Nat) {r : Nat} (hr : r < 64) : finL x q r = upW (shW x r) q := by
  funext j
  unfold finL upW
  by_cases h : q ≤ j
  · rw [if_pos h, if_pos h, ← shW_or hx hr (j - q)]
    congr 1
    unfold lowp prevW
    by_cases h0 : j - q = 0
    · rw [if_pos h0, if_neg (by omega)]
    · rw [if_neg h0]
      by_cases hr0 : 0 < r
      · rw [if_pos (by omega), hiW_eq _ (by omega)]
      · obtain rfl : r = 0 := by omega
        rw [if_neg (by omega)]
        unfold hiW
        have := hx (j - q - 1)
        omega
  · rw [if_neg h, if_neg h]
theorem p64 (q r : Nat) : (2 : Int) ^ r * 18446744073709551616 ^ q = 2 ^ (64 * q + r) := by
  rw [Int.pow_add, Int.pow_mul, Int.mul_comm]; rfl
/-- the value of what the document's Left lays -/
theorem finL_val {x : Nat → Int} {n : Nat} (hx : Words x) (zx : ∀ i, n ≤ i → x i = 0) (q : Nat) {r : Nat} (hr : r < 64) : val (finL x q r) (n + q + 1) = val x n * 2 ^ (64 * q + r) := by
  rw [finL_up hx q hr, show n + q + 1 = q + (n + 1) by omega, val_up, sh_end zx r (n + 1) (by omega), Int.mul_assoc, p64]
end Go.Proofs.YtpemdcnneabbfaaGreatDoor
