/-
  Texts that the proof leans on, joined: Nad, Nsb, Nln, Adds, Nmu, Shv, Nsl, Rgt.
-/
import Derived.Test.YtkefmapcaggefaaDoorJ3
set_option linter.unusedVariables false
set_option linter.unusedSimpArgs false
set_option maxRecDepth 20000
set_option linter.unusedSectionVars false
namespace Go.Proofs.YtkefmapcaggefaaDoor
open Go.RowKit

/-- the words of x, to those from off on y's lowest k added -/
def addZ (x y : Nat → Int) (off k j : Nat) : Int := if off ≤ j ∧ j < off + k then sumW (fun i => x (off + i)) y (j - off) else x j
theorem addZ_next (x y : Nat → Int) (off k j : Nat) : (if j = off + k then sumW (fun i => x (off + i)) y k else addZ x y off k j) = addZ x y off (k + 1) j := by
  unfold addZ
  by_cases e : j = off + k
  · subst e
    rw [if_pos rfl, if_pos (by omega)]; congr 1; omega
  · rw [if_neg e]
    by_cases e2 : off ≤ j ∧ j < off + k
    · rw [if_pos e2, if_pos (by omega)]
    · rw [if_neg e2, if_neg (by omega)]
theorem addZ_at (x y : Nat → Int) (off k : Nat) : addZ x y off k (off + k) = x (off + k) := by unfold addZ; rw [if_neg (by omega)]

theorem Num.cells {w : World} {a : Option Addr} {n c : Nat} {x : Nat → Int} (h : Num w a n c x) (hn : 0 < n) : ∃ b off, a = some ⟨b, off, none⟩ ∧ b < w.heap.size ∧ ∀ i, i < n → w.cell? ⟨b, off + i, none⟩ = some (.int .u64 (x i)) := by
  rcases h.2.2.2.2 with ⟨_, h'⟩ | ⟨b, off, h', hb, hc⟩
  · have := h.1; omega
  · exact ⟨b, off, h', hb, hc⟩

set_option maxHeartbeats 1000000 in
theorem addInto_any (g N off m c k c' : Nat) (a' : Option Addr) (x y : Nat → Int) (w : World) (hm : off + m ≤ N) (hN : N < 4294967296) (hk : k ≤ m) (hx : Words x) (h : Own g N x w) (h' : Num w a' k c' y) (hA : Apart a' g) :
    Calls Tryd.prog 74 #[.slice (some ⟨g, off, none⟩) m c, .slice a' k c'] w fun e w' => e = .returned (.int .u64 (carryW (fun i => x (off + i)) y k)) ∧ Own g N (addZ x y off k) w' ∧ Upd g w w' := by
  have hy := h'.2.2.1
  have hX : Words (fun i => x (off + i)) := fun i => hx (off + i)
  have HX : Hid (Words (fun i => x (off + i))) := hX
  go_enter Tryd.func74, Tryd.ntmps74
  go_wp2
  go_loopw [5, 6, 7, 10, 15] (fun cv u6 u7 i u15 wr => ∃ (j : Nat), j ≤ k ∧ i = .int .i64 j ∧ cv = .int .u64 (carryW (fun i => x (off + i)) y j) ∧ Own g N (addZ x y off j) wr ∧ Upd g w wr) (fun _ _ _ i _ _ => k - (intOf i).toNat)
  case atStart => exact ⟨0, Nat.zero_le _, rfl, rfl, h.congr fun i _ => by unfold addZ; rw [if_neg (by omega)], Upd.refl _ _⟩
  case round =>
    obtain ⟨j, hj, rfl, rfl, hO, hU⟩ := hrel
    have hcar := carryW_01 HX.out hy j
    by_cases hlt : j < k
    · have hji : (j : Int) < k := by omega
      have hjm : (j : Int) < m := by omega
      obtain ⟨b, off', rfl, hb, hc⟩ := (hU.num' hA h').cells (by omega)
      have hcj := hc j hlt
      have hco := hO.cell (off + j) (by omega)
      rw [addZ_at] at hco
      have hfo := hO.frozen (off + j)
      have bx := hx (off + j)
      have b_y := hy j
      have hadd := fun w => add64 (x (off + j)) (y j) (carryW (fun i => x (off + i)) y j) bx.1 b_y.1 hcar.1 hcar.2 w
      have HO : Hid (Own g N (addZ x y off (j + 1)) (wr.setCell ⟨g, off + j, none⟩ (.int .u64 (sumW (fun i => x (off + i)) y j)))) := (hO.set (off + j) _).congr fun i _ => addZ_next x y off j i
      have HU : Hid (Upd g w (wr.setCell ⟨g, off + j, none⟩ (.int .u64 (sumW (fun i => x (off + i)) y j)))) := hU.set (off + j) _
      clear hO hU hc h h' hA hx hy hX
      go_wp2
      go_roundw
      case rel => exact ⟨j + 1, by omega, by go_num, rfl, HO.out, HU.out⟩
      case measure => simp [intOf]; omega
    · obtain rfl : j = k := by omega
      have HO : Hid (Own g N (addZ x y off j) wr) := hO
      have HU : Hid (Upd g w wr) := hU
      clear hO hU h h' hA hx hy hX
      go_wp2
      go_ret
      exact ⟨rfl, HO.out, HU.out⟩

theorem carryW_stop {x y : Nat → Int} (hx : Words x) {k : Nat} (zy : ∀ i, k ≤ i → y i = 0) {i : Nat} (hi : k ≤ i) (h0 : carryW x y i = 0) : ∀ j, i ≤ j → carryW x y j = 0 ∧ sumW x y j = x j := by
  have h1 : ∀ j, i ≤ j → carryW x y j = 0 := by
    intro j hj
    induction j with
    | zero => obtain rfl : i = 0 := by omega
              exact h0
    | succ j ih =>
      by_cases e : i = j + 1
      · rw [← e]; exact h0
      · have hb := hx j
        simp only [carryW]; rw [ih (by omega), zy j (by omega)]; omega
  intro j hj
  refine ⟨h1 j hj, ?_⟩
  have hb := hx j
  unfold sumW
  rw [h1 j hj, zy j (by omega)]; omega

set_option maxHeartbeats 1000000 in
theorem carryInto_any (g N k c : Nat) (x y : Nat → Int) (w : World) (hk : k ≤ N) (hN : N < 4294967296) (hx : Words x) (hy : Words y) (zy : ∀ i, k ≤ i → y i = 0) (hend : carryW x y N = 0) (h : Own g N (addZ x y 0 k) w) :
    Calls Tryd.prog 73 #[.slice (some ⟨g, k, none⟩) (N - k) c, .int .u64 (carryW x y k)] w fun e w' => e = .returned (.tuple #[]) ∧ Own g N (sumW x y) w' ∧ Upd g w w' := by
  have e0 : (fun i => x (0 + i)) = x := by funext i; rw [Nat.zero_add]
  go_enter Tryd.func73, Tryd.ntmps73
  go_wp2
  go_loopw [1, 4, 9] (fun cv i u9 wr => ∃ (j : Nat), k + j ≤ N ∧ i = .int .i64 j ∧ cv = .int .u64 (carryW x y (k + j)) ∧ Own g N (addZ x y 0 (k + j)) wr ∧ Upd g w wr) (fun _ i _ _ => N - (intOf i).toNat)
  case atStart => exact ⟨0, by omega, rfl, rfl, h, Upd.refl _ _⟩
  case round =>
    obtain ⟨j, hj, rfl, rfl, hO, hU⟩ := hrel
    have hcar := carryW_01 hx hy (k + j)
    by_cases hc0 : carryW x y (k + j) = 0
    · have HO : Hid (Own g N (sumW x y) wr) := hO.congr fun i hi => by
        unfold addZ
        by_cases e : 0 ≤ i ∧ i < 0 + (k + j)
        · rw [if_pos e, e0]; rfl
        · rw [if_neg e]; exact ((carryW_stop hx zy (by omega) hc0 i (by omega)).2).symm
      have HU : Hid (Upd g w wr) := hU
      rw [hc0]
      clear hO hU h hend hcar e0
      go_wp2
      go_end0
      exact ⟨rfl, HO.out, HU.out⟩
    · have hlt : k + j < N := by
        rcases Nat.lt_or_ge (k + j) N with h' | h'
        · exact h'
        · obtain e : k + j = N := by omega
          rw [e] at hc0; exact absurd hend hc0
      have hpos : 0 < carryW x y (k + j) := by omega
      have hji : (j : Int) < ((N - k : Nat) : Int) := by omega
      have hco := hO.cell (k + j) hlt
      have e1 : addZ x y 0 (k + j) (k + j) = x (k + j) := by have := addZ_at x y 0 (k + j); simpa using this
      rw [e1] at hco
      have hfo := hO.frozen (k + j)
      have bx := hx (k + j)
      have hs : sumW x y (k + j) = (x (k + j) + carryW x y (k + j)) % 18446744073709551616 := by unfold sumW; rw [zy _ (by omega), Int.add_zero]
      have hcn : carryW x y (k + (j + 1)) = (x (k + j) + carryW x y (k + j)) / 18446744073709551616 := by
        show (x (k + j) + y (k + j) + carryW x y (k + j)) / 18446744073709551616 = _
        rw [zy _ (by omega), Int.add_zero]
      have hadd := fun w => add64 (x (k + j)) 0 (carryW x y (k + j)) bx.1 (by decide) hcar.1 hcar.2 w
      have HO : Hid (Own g N (addZ x y 0 (k + (j + 1))) (wr.setCell ⟨g, k + j, none⟩ (.int .u64 (sumW x y (k + j))))) := (hO.set (k + j) _).congr fun i _ => by
        have := addZ_next x y 0 (k + j) i
        rw [e0, Nat.zero_add] at this
        exact this
      have HU : Hid (Upd g w (wr.setCell ⟨g, k + j, none⟩ (.int .u64 (sumW x y (k + j))))) := hU.set (k + j) _
      have HC : Hid (carryW x y (k + (j + 1)) = (x (k + j) + carryW x y (k + j)) / 18446744073709551616) := hcn
      rw [hs] at HO HU
      clear hO hU h hend hx hy zy hc0 e1 hs hcn e0
      go_wp2
      go_roundw
      case rel => exact ⟨j + 1, by omega, by go_num, by rw [HC.out], HO.out, HU.out⟩
      case measure => simp [intOf]; omega

theorem sum_end {x y : Nat → Int} {s s' N : Nat} (hx : Words x) (hy : Words y) (zx : ∀ i, s ≤ i → x i = 0) (zy : ∀ i, s' ≤ i → y i = 0) (h : s < N) (h' : s' < N) : carryW x y N = 0 := by
  obtain ⟨q, rfl⟩ : ∃ q, N = q + 1 := ⟨N - 1, by omega⟩
  have := carryW_01 hx hy q
  simp only [carryW]; rw [zx q (by omega), zy q (by omega)]; omega
/-- what is left behind the work: the sum, trimmed -/
theorem sum_num {x y : Nat → Int} {g N s s' : Nat} {w : World} (hx : Words x) (hy : Words y) (zx : ∀ i, s ≤ i → x i = 0) (zy : ∀ i, s' ≤ i → y i = 0) (h : s < N) (h' : s' < N) (hN : N < 4294967296) (hO : Own g N (sumW x y) w) :
    Num w (some ⟨g, 0, none⟩) N N (segW (sumW x y) 0 N) ∧ val (segW (sumW x y) 0 N) N = val x s + val y s' := by
  refine ⟨hO.num (sumW_words x y) 0 N N (by omega) (Nat.le_refl _) (by unfold maxLen; omega), ?_⟩
  rw [val_congr (x := segW (sumW x y) 0 N) (y := sumW x y) N fun i hi => by rw [segW_lt _ 0 N i hi, Nat.zero_add]]
  have e := sum_val (x := x) (y := y) N
  rw [sum_end hx hy zx zy h h', val_more zx N (by omega), val_more zy N (by omega)] at e
  omega

set_option maxHeartbeats 1000000 in
theorem nadd_any (a a' : Option Addr) (n c n' c' : Nat) (x y : Nat → Int) (w : World) (hn : n < 4000000000) (hn' : n' < 4000000000) (h : Num w a n c x) (h' : Num w a' n' c' y) :
    Calls Tryd.prog 63 #[.slice a n c, .slice a' n' c'] w fun e w' => ∃ g k cap z, e = .returned (.slice (some ⟨g, 0, none⟩) k cap) ∧ k ≤ max (sizeL x n) (sizeL y n') + 1 ∧ Num w' (some ⟨g, 0, none⟩) k cap z ∧ val z k = val x n + val y n' ∧ sizeL z k = k ∧ Below w.heap.size w w' := by
  have hb := bare_any a n c x w (by omega) h
  have hb' := bare_any a' n' c' y w (by omega) h'
  rw [← val_bare n, ← val_bare n']
  have hx := h.2.2.1
  have hy := h'.2.2.1
  have hle := sizeL_le x n
  have hle' := sizeL_le y n'
  have hN := h.bare
  have hN' := h'.bare
  generalize sizeL x n = s at *
  generalize sizeL y n' = s' at *
  clear h h'
  by_cases hlt : s < s'
  · have hlt' : (s : Int) < s' := by omega
    obtain ⟨N, hNs⟩ : ∃ N, s' + 1 = N := ⟨_, rfl⟩
    have hNi : (s' : Int) + 1 = N := by omega
    have hmk := fun w => make_any ((s' : Int) + 1) N hNi (by omega) w
    have hcp := fun ty => copy_num (N := N) (C := N) ty hN' (by omega)
    have hO := Own.new w y N
    have hA : Apart a w.heap.size := by
      intro p hp
      rcases hN.2.2.2.2 with ⟨h, _⟩ | ⟨b, off, h, hb, _⟩
      · rw [h] at hp; cases hp
      · rw [h] at hp; cases hp; exact Nat.ne_of_lt hb
    have hnS := hN.next (below1 w (.cells (arrOf y N) 22))
    have hai := fun wr hO hn => addInto_any w.heap.size N 0 N N s c a y x wr (by omega) (by omega) (by omega) hy hO hn hA
    rw [show (fun i => y (0 + i)) = y by funext i; rw [Nat.zero_add]] at hai
    have hci := fun wr hO => carryInto_any w.heap.size N s (N - s) y x wr (by omega) (by omega) hy hx hN.2.2.2.1 (sum_end hy hx hN'.2.2.2.1 hN.2.2.2.1 (by omega) (by omega)) hO
    have HSN : Hid (∀ w2, Own w.heap.size N (sumW y x) w2 → Num w2 (some ⟨w.heap.size, 0, none⟩) N N (segW (sumW y x) 0 N) ∧ val (segW (sumW y x) 0 N) N = val y s' + val x s) := fun w2 h2 => sum_num hy hx hN'.2.2.2.1 hN.2.2.2.1 (by omega) (by omega) (by omega) h2
    have HBW : Hid (Below w.heap.size w (w.alloc (.cells (arrOf y N) 22))) := below1 w _
    have hsN : (s : Int) ≤ N := by omega
    clear hN hN' hNi hA hx hy
    go_enter Tryd.func63, Tryd.ntmps63
    go_wp2_with (first | (go_at_call_of 58 (Value.slice a n c); refine hb.mono ?_; rintro e w' ⟨rfl, rfl⟩) | (go_at_call_of 58 (Value.slice a' n' c'); refine hb'.mono ?_; rintro e w' ⟨rfl, rfl⟩))
    generalize w.alloc (.cells (arrOf y N) 22) = wA at *
    go_region_with (first | (go_at_call 74; refine (hai wA.drew hO hnS).mono ?_; rintro e w1 ⟨rfl, hO1, hU1⟩) | (go_at_call 73; refine (hci _ hO1).mono ?_; rintro e w2 ⟨rfl, hO2, hU2⟩))
    have hsn := HSN.out w2 hO2
    have hbr := bare_any (some ⟨w.heap.size, 0, none⟩) N N (segW (sumW y x) 0 N) w2 (by omega) hsn.1
    have HN2 : Hid (Num w2 (some ⟨w.heap.size, 0, none⟩) (sizeL (segW (sumW y x) 0 N) N) N (segW (sumW y x) 0 N)) := hsn.1.bare
    have HV2 : Hid (val (segW (sumW y x) 0 N) (sizeL (segW (sumW y x) 0 N) N) = val y s' + val x s) := by show _ = _; rw [val_bare, hsn.2]
    have HS2 : Hid (sizeL (segW (sumW y x) 0 N) (sizeL (segW (sumW y x) 0 N) N) = sizeL (segW (sumW y x) 0 N) N) := sizeL_sizeL _ _
    have HLE : Hid (sizeL (segW (sumW y x) 0 N) N ≤ N) := sizeL_le _ _
    generalize segW (sumW y x) 0 N = z at *
    generalize sizeL z N = k at *
    have HB2 : Hid (Below w.heap.size w w2) := (HBW.out.drew.trans (hU1.below (Nat.le_refl _))).trans (hU2.below (Nat.le_refl _))
    clear hsn hO1 hO2 hU1 hU2 hO hnS hai hci hb hb'
    go_wp2_with (go_at_call 58; refine hbr.mono ?_; rintro e w3 ⟨rfl, rfl⟩)
    go_ret
    exact ⟨_, k, N, z, rfl, by have := HLE.out; omega, HN2.out, by rw [HV2.out]; omega, HS2.out, HB2.out⟩
  · have hlt' : ¬ (s : Int) < s' := by omega
    obtain ⟨N, hNs⟩ : ∃ N, s + 1 = N := ⟨_, rfl⟩
    have hNi : (s : Int) + 1 = N := by omega
    have hmk := fun w => make_any ((s : Int) + 1) N hNi (by omega) w
    have hcp := fun ty => copy_num (N := N) (C := N) ty hN (by omega)
    have hO := Own.new w x N
    have hA : Apart a' w.heap.size := by
      intro p hp
      rcases hN'.2.2.2.2 with ⟨h, _⟩ | ⟨b, off, h, hb, _⟩
      · rw [h] at hp; cases hp
      · rw [h] at hp; cases hp; exact Nat.ne_of_lt hb
    have hnS := hN'.next (below1 w (.cells (arrOf x N) 22))
    have hai := fun wr hO hn => addInto_any w.heap.size N 0 N N s' c' a' x y wr (by omega) (by omega) (by omega) hx hO hn hA
    rw [show (fun i => x (0 + i)) = x by funext i; rw [Nat.zero_add]] at hai
    have hci := fun wr hO => carryInto_any w.heap.size N s' (N - s') x y wr (by omega) (by omega) hx hy hN'.2.2.2.1 (sum_end hx hy hN.2.2.2.1 hN'.2.2.2.1 (by omega) (by omega)) hO
    have HSN : Hid (∀ w2, Own w.heap.size N (sumW x y) w2 → Num w2 (some ⟨w.heap.size, 0, none⟩) N N (segW (sumW x y) 0 N) ∧ val (segW (sumW x y) 0 N) N = val x s + val y s') := fun w2 h2 => sum_num hx hy hN.2.2.2.1 hN'.2.2.2.1 (by omega) (by omega) (by omega) h2
    have HBW : Hid (Below w.heap.size w (w.alloc (.cells (arrOf x N) 22))) := below1 w _
    have hsN : (s' : Int) ≤ N := by omega
    clear hN hN' hNi hA hx hy
    go_enter Tryd.func63, Tryd.ntmps63
    go_wp2_with (first | (go_at_call_of 58 (Value.slice a n c); refine hb.mono ?_; rintro e w' ⟨rfl, rfl⟩) | (go_at_call_of 58 (Value.slice a' n' c'); refine hb'.mono ?_; rintro e w' ⟨rfl, rfl⟩))
    generalize w.alloc (.cells (arrOf x N) 22) = wA at *
    go_region_with (first | (go_at_call 74; refine (hai wA.drew hO hnS).mono ?_; rintro e w1 ⟨rfl, hO1, hU1⟩) | (go_at_call 73; refine (hci _ hO1).mono ?_; rintro e w2 ⟨rfl, hO2, hU2⟩))
    have hsn := HSN.out w2 hO2
    have hbr := bare_any (some ⟨w.heap.size, 0, none⟩) N N (segW (sumW x y) 0 N) w2 (by omega) hsn.1
    have HN2 : Hid (Num w2 (some ⟨w.heap.size, 0, none⟩) (sizeL (segW (sumW x y) 0 N) N) N (segW (sumW x y) 0 N)) := hsn.1.bare
    have HV2 : Hid (val (segW (sumW x y) 0 N) (sizeL (segW (sumW x y) 0 N) N) = val x s + val y s') := by show _ = _; rw [val_bare, hsn.2]
    have HS2 : Hid (sizeL (segW (sumW x y) 0 N) (sizeL (segW (sumW x y) 0 N) N) = sizeL (segW (sumW x y) 0 N) N) := sizeL_sizeL _ _
    have HLE : Hid (sizeL (segW (sumW x y) 0 N) N ≤ N) := sizeL_le _ _
    generalize segW (sumW x y) 0 N = z at *
    generalize sizeL z N = k at *
    have HB2 : Hid (Below w.heap.size w w2) := (HBW.out.drew.trans (hU1.below (Nat.le_refl _))).trans (hU2.below (Nat.le_refl _))
    clear hsn hO1 hO2 hU1 hU2 hO hnS hai hci hb hb'
    go_wp2_with (go_at_call 58; refine hbr.mono ?_; rintro e w3 ⟨rfl, rfl⟩)
    go_ret
    exact ⟨_, k, N, z, rfl, by have := HLE.out; omega, HN2.out, by rw [HV2.out], HS2.out, HB2.out⟩
end Go.Proofs.YtkefmapcaggefaaDoor

namespace Go.Proofs.YtkefmapcaggefaaDoor
open Go.RowKit

theorem bor_val {x y b : Int} (hx : 0 ≤ x ∧ x ≤ 18446744073709551615) (hy : 0 ≤ y ∧ y ≤ 18446744073709551615) (hb : 0 ≤ b ∧ b ≤ 1) : (x - y - b) % 18446744073709551616 - bor x y b * 18446744073709551616 = x - y - b := by
  unfold bor; split <;> omega
theorem dif_val {x y : Nat → Int} (hx : Words x) (hy : Words y) : ∀ n, val (difW x y) n - borW x y n * 18446744073709551616 ^ n = val x n - val y n
  | 0 => by simp [val, borW]
  | n + 1 => by
    have ih := dif_val hx hy n
    have h := bor_val (hx n) (hy n) (borW_01 x y n)
    show val (difW x y) n + difW x y n * 18446744073709551616 ^ n - bor (x n) (y n) (borW x y n) * 18446744073709551616 ^ (n + 1) = val x n + x n * 18446744073709551616 ^ n - (val y n + y n * 18446744073709551616 ^ n)
    have hd : difW x y n = (x n - y n - borW x y n) % 18446744073709551616 := rfl
    rw [← hd] at h
    rw [Int.pow_succ]
    generalize (18446744073709551616 : Int) ^ n = P at *
    grind
end Go.Proofs.YtkefmapcaggefaaDoor

namespace Go.Proofs.YtkefmapcaggefaaDoor
open Go.RowKit

set_option maxHeartbeats 400000 in
theorem nlen_any (a : Option Addr) (n c : Nat) (x : Nat → Int) (w : World) (hn : n < 100000000) (h : Num w a n c x) :
    Calls Tryd.prog 48 #[.slice a n c] w fun e w' => e = .returned (.int .i64 (lenL x n)) ∧ w = w' := by
  have hb := bare_any a n c x w (by omega) h
  have hle := sizeL_le x n
  by_cases h0 : sizeL x n = 0
  · have HL : Hid (lenL x n = 0) := by show _ = _; simp [lenL, h0]
    rw [h0] at hb
    clear h0 h
    go_enter Tryd.func48, Tryd.ntmps48
    go_wp2_with (go_at_call 58; refine hb.mono ?_; rintro e w' ⟨rfl, rfl⟩)
    go_ret
    exact ⟨ret_int HL.out.symm, rfl⟩
  · obtain ⟨j, hj⟩ : ∃ j, sizeL x n = j + 1 := ⟨sizeL x n - 1, by omega⟩
    have HL : Hid (lenL x n = 64 * (j : Int) + Lib.bitLen (x j).toNat) := by show _ = _; simp [lenL, hj]; omega
    obtain ⟨b, off, rfl, hbs, hc⟩ := h.cells (by omega)
    rw [hj] at hb
    have hcj := hc j (by omega)
    have hbx := h.2.2.1 j
    have hbl := bitLen64 (x j).toNat
    have hj' : j + 1 ≤ n := by omega
    clear h0 hc hj hle h
    have hcl := Tryd.bits_Len64 (x j) w hbx.1 hbx.2
    generalize Lib.bitLen (x j).toNat = L at *
    go_enter Tryd.func48, Tryd.ntmps48
    go_wp2_with (first | (go_at_call 58; refine hb.mono ?_; rintro e w' ⟨rfl, rfl⟩) | (go_at_call 47; refine hcl.mono ?_; rintro e w' ⟨rfl, rfl⟩))
    go_ret
    exact ⟨ret_int (by rw [HL.out]; omega), rfl⟩
set_option maxHeartbeats 400000 in
theorem rlen_nil (w : World) : Calls Tryd.prog 34 #[.slice none 0 0] w fun e w' => e = .returned (.int .i64 0) ∧ w = w' := by
  have hs := size_nil w
  go_enter Tryd.func34, Tryd.ntmps34
  go_wp2_with (go_at_call 46; refine hs.mono ?_; rintro e w' ⟨rfl, rfl⟩)
  go_ret
  exact ⟨rfl, rfl⟩
theorem rlen_num (a : Option Addr) (n c : Nat) (x : Nat → Int) (w : World) (hn : n < 100000000) (h : Num w a n c x) :
    Calls Tryd.prog 34 #[.slice a n c] w fun e w' => e = .returned (.int .i64 (lenL x n)) ∧ w = w' := by
  have h' := h
  obtain ⟨h1, h2, h3, h4, h5⟩ := h'
  rcases h5 with ⟨rfl, rfl⟩ | ⟨b, off, rfl, hb, hc⟩
  · obtain rfl : n = 0 := by omega
    exact rlen_nil w
  · exact (len_any b off n c x w hn h3 hc).mono fun e w' hw => ⟨hw.1, hw.2.symm⟩
end Go.Proofs.YtkefmapcaggefaaDoor

namespace Go.Proofs.YtkefmapcaggefaaDoor
open Go.RowKit

theorem ncmp_b (a a' : Option Addr) (n c n' c' : Nat) (x y : Nat → Int) (w : World) (hn : n < 4294967296) (hn' : n' < 4294967296) (h : Num w a n c x) (h' : Num w a' n' c' y) :
    Calls Tryd.prog 60 #[.slice a n c, .slice a' n' c'] w fun e w' => e = .returned (.int .i64 (sgn (val x n) (val y n'))) ∧ Below w.heap.size w w' :=
  (ncmp_any a a' n c n' c' x y w hn hn' h h').mono fun e w' ⟨h1, m, hm⟩ => ⟨h1, hm ▸ below_drewN (Below.refl _ _) m⟩
theorem num_none (w : World) : Num w none 0 0 (fun _ => 0) := ⟨Nat.le_refl _, by unfold maxLen; omega, fun _ => (by decide : (0 : Int) ≤ 0 ∧ (0 : Int) ≤ 18446744073709551615), fun _ _ => rfl, Or.inl ⟨rfl, rfl⟩⟩
end Go.Proofs.YtkefmapcaggefaaDoor

namespace Go.Proofs.YtkefmapcaggefaaDoor
open Go.RowKit

set_option maxHeartbeats 1000000 in
theorem mulAdd_any (a n z C : Int) (w : World) (ha : 0 ≤ a ∧ a ≤ 18446744073709551615) (hn : 0 ≤ n ∧ n ≤ 18446744073709551615) (hz : 0 ≤ z ∧ z ≤ 18446744073709551615) (hC : 0 ≤ C ∧ C ≤ 18446744073709551615) :
    Calls Tryd.prog 84 #[.int .u64 a, .int .u64 n, .int .u64 z, .int .u64 C] w fun e w' => ∃ l h, e = .returned (.tuple #[.int .u64 l, .int .u64 h]) ∧ l + h * 18446744073709551616 = a * n + z + C ∧ (0 ≤ l ∧ l ≤ 18446744073709551615) ∧ (0 ≤ h ∧ h ≤ 18446744073709551615) ∧ w = w' := by
  have hms := mul_step a n z C ha hn hz hC
  have hmul := mul64 a n ha hn w
  have hL0 : 0 ≤ a * n % 18446744073709551616 := Int.emod_nonneg _ (by decide)
  have hA1 := fun w => add64z (a * n % 18446744073709551616) z hL0 hz.1 w
  have hs0 : 0 ≤ (a * n % 18446744073709551616 + z) % 18446744073709551616 := Int.emod_nonneg _ (by decide)
  have hA2 := fun w => add64z ((a * n % 18446744073709551616 + z) % 18446744073709551616) C hs0 hC.1 w
  have ht0 : 0 ≤ ((a * n % 18446744073709551616 + z) % 18446744073709551616 + C) % 18446744073709551616 ∧ ((a * n % 18446744073709551616 + z) % 18446744073709551616 + C) % 18446744073709551616 ≤ 18446744073709551615 := by omega
  generalize ((a * n % 18446744073709551616 + z) % 18446744073709551616 + C) % 18446744073709551616 = t2 at *
  generalize ((a * n % 18446744073709551616 + z) % 18446744073709551616 + C) / 18446744073709551616 = f2 at *
  generalize (a * n % 18446744073709551616 + z) % 18446744073709551616 = t1 at *
  generalize (a * n % 18446744073709551616 + z) / 18446744073709551616 = f1 at *
  generalize a * n % 18446744073709551616 = lo at *
  generalize a * n / 18446744073709551616 = hi at *
  have HMS : Hid (t2 + (hi + f1 + f2) * 18446744073709551616 = a * n + z + C) := hms.1
  have hb1 : 0 ≤ hi + f1 := hms.2.1
  have hb2 : hi + f1 ≤ 18446744073709551615 := hms.2.2.1
  have hb3 : 0 ≤ hi + f1 + f2 := hms.2.2.2.1
  have hb4 : hi + f1 + f2 ≤ 18446744073709551615 := hms.2.2.2.2
  clear hms
  go_enter Tryd.func84, Tryd.ntmps84
  go_wp2_with (go_at_call 83; refine hmul.mono ?_; rintro e w' ⟨rfl, rfl⟩)
  go_ret2
  exact ⟨t2, hi + f1 + f2, rfl, HMS.out, ht0, ⟨hb3, hb4⟩, rfl⟩

theorem apart_of {w : World} {a : Option Addr} {n c : Nat} {x : Nat → Int} (h : Num w a n c x) : Apart a w.heap.size := by
  intro p hp
  rcases h.2.2.2.2 with ⟨h, _⟩ | ⟨b, off, h, hb, _⟩
  · rw [h] at hp; cases hp
  · rw [h] at hp; cases hp; exact Nat.ne_of_lt hb
theorem val_zero : ∀ m, val (fun _ => 0) m = 0 := by intro m; induction m with | zero => rfl | succ m ih => simp only [val]; rw [ih]; simp

end Go.Proofs.YtkefmapcaggefaaDoor

namespace Go.Proofs.YtkefmapcaggefaaDoor
open Go.RowKit

theorem wrap_mod (a : Int) : IntKind.u64.wrap a = a % 18446744073709551616 := by
  simp only [IntKind.wrap, IntKind.bits, IntKind.signed]
  simp
theorem p2_pos (n : Nat) : (0 : Int) < 2 ^ n := Int.pow_pos (by decide)
theorem p2_split {r : Nat} (hr : r ≤ 64) : (2 : Int) ^ (64 - r) * 2 ^ r = 18446744073709551616 := by
  rw [← Int.pow_add, show 64 - r + r = 64 by omega]; rfl
/-- what goes beyond a word that is shifted by r -/
def hiW (x : Int) (r : Nat) : Int := x * 2 ^ r / 18446744073709551616
theorem hiW_eq (x : Int) {r : Nat} (hr : r ≤ 64) : x / 2 ^ (64 - r) = hiW x r := by
  unfold hiW
  rw [← p2_split hr, Int.mul_ediv_mul_of_pos_left _ _ (p2_pos r)]
theorem hiW_bd {x : Int} (hx : 0 ≤ x ∧ x ≤ 18446744073709551615) (r : Nat) : 0 ≤ hiW x r ∧ hiW x r < 2 ^ r := by
  have hp := p2_pos r
  unfold hiW
  refine ⟨Int.ediv_nonneg (Int.mul_nonneg hx.1 (by omega)) (by decide), Int.ediv_lt_of_lt_mul (by decide) ?_⟩
  rw [Int.mul_comm (2 ^ r)]
  exact Int.mul_lt_mul_of_pos_right (by omega) hp
theorem p2_le {r : Nat} (hr : r < 64) : (2 : Int) ^ r ≤ 9223372036854775808 := by
  have h := p2_split (show r ≤ 64 by omega)
  have h1 : (2 : Int) ^ (64 - r) = 2 ^ (63 - r) * 2 := by rw [← Int.pow_succ]; congr 1; omega
  have h2 := p2_pos (63 - r)
  rw [h1] at h
  have : (1 : Int) * (2 * 2 ^ r) ≤ 2 ^ (63 - r) * (2 * 2 ^ r) := Int.mul_le_mul_of_nonneg_right (by omega) (by have := p2_pos r; omega)
  rw [← Int.mul_assoc] at this
  have e : (2 : Int) ^ (63 - r) * (2 * 2 ^ r) = 18446744073709551616 := by rw [← Int.mul_assoc]; exact h
  omega
/-- the two parts of a shifted word have no bit in common -/
theorem or_shl {y b : Int} {r : Nat} (hr : r < 64) (hy : 0 ≤ y) (hb : 0 ≤ b ∧ b < 2 ^ r) : orW b (IntKind.u64.wrap (y * 2 ^ r)) = y * 2 ^ r % 18446744073709551616 + b := by
  have hle := p2_le hr
  have hp := p2_pos r
  have hme : y * 2 ^ r % (2 ^ (64 - r) * 2 ^ r) = y % 2 ^ (64 - r) * 2 ^ r := by
    have := Int.mul_emod_mul_of_pos y (2 ^ (64 - r)) hp
    rw [Int.mul_comm y, Int.mul_comm (2 ^ (64 - r)), this, Int.mul_comm]
  rw [orW_eq b _ (by omega) (wrap_word _), wrap_mod, ← p2_split (show r ≤ 64 by omega), hme]
  have hm0 := Int.emod_nonneg y (show (2 : Int) ^ (64 - r) ≠ 0 by have := p2_pos (64 - r); omega)
  obtain ⟨u, hu⟩ := Int.eq_ofNat_of_zero_le hm0
  obtain ⟨b', rfl⟩ := Int.eq_ofNat_of_zero_le hb.1
  rw [hu]
  have e1 : ((u : Int) * 2 ^ r).toNat = 2 ^ r * u := by
    have : ((u : Int) * 2 ^ r) = ((2 ^ r * u : Nat) : Int) := by rw [Int.natCast_mul, powCast, Int.mul_comm]
    rw [this]; exact Int.toNat_natCast _
  have hb2 : b' < 2 ^ r := by
    have h := hb.2
    rw [← powCast] at h; omega
  rw [e1, Int.toNat_natCast, Nat.or_comm, ← Nat.two_pow_add_eq_or_of_lt hb2]
  rw [Int.natCast_add, Int.natCast_mul, powCast, Int.mul_comm]
/-- what comes in from the word below -/
def prevW (x : Nat → Int) (r i : Nat) : Int := if i = 0 then 0 else hiW (x (i - 1)) r
/-- the words of x times 2^r -/
def shW (x : Nat → Int) (r i : Nat) : Int := x i * 2 ^ r % 18446744073709551616 + prevW x r i
theorem prevW_bd {x : Nat → Int} (hx : Words x) (r i : Nat) : 0 ≤ prevW x r i ∧ prevW x r i < 2 ^ r := by
  unfold prevW; split
  · have := p2_pos r; omega
  · exact hiW_bd (hx _) r
theorem shW_or {x : Nat → Int} (hx : Words x) {r : Nat} (hr : r < 64) (i : Nat) : orW (prevW x r i) (IntKind.u64.wrap (x i * 2 ^ r)) = shW x r i := or_shl hr (hx i).1 (prevW_bd hx r i)
theorem prevW_word {x : Nat → Int} (hx : Words x) {r : Nat} (hr : r < 64) (i : Nat) : 0 ≤ prevW x r i ∧ prevW x r i ≤ 18446744073709551615 := by
  have := prevW_bd hx r i
  have := p2_le hr
  omega
theorem shW_words {x : Nat → Int} (hx : Words x) {r : Nat} (hr : r < 64) : Words (shW x r) := fun i => by
  rw [← shW_or hx hr i]; exact orW_word _ _ (prevW_word hx hr i) (wrap_word _)
theorem sh_val (x : Nat → Int) (r : Nat) : ∀ m, val (shW x r) m + prevW x r m * 18446744073709551616 ^ m = val x m * 2 ^ r
  | 0 => by simp [val, prevW]
  | m + 1 => by
    have ih := sh_val x r m
    show val (shW x r) m + shW x r m * 18446744073709551616 ^ m + prevW x r (m + 1) * 18446744073709551616 ^ (m + 1) = (val x m + x m * 18446744073709551616 ^ m) * 2 ^ r
    have e1 : prevW x r (m + 1) = x m * 2 ^ r / 18446744073709551616 := rfl
    have e2 : shW x r m = x m * 2 ^ r % 18446744073709551616 + prevW x r m := rfl
    have e3 := Int.emod_add_mul_ediv (x m * 2 ^ r) 18446744073709551616
    rw [e1, e2, Int.pow_succ]
    generalize x m * 2 ^ r / 18446744073709551616 = K at *
    generalize x m * 2 ^ r % 18446744073709551616 = R at *
    generalize (18446744073709551616 : Int) ^ m = P at *
    grind
theorem sh_end {x : Nat → Int} {n : Nat} (zx : ∀ i, n ≤ i → x i = 0) (r m : Nat) (h : n < m) : val (shW x r) m = val x n * 2 ^ r := by
  have e := sh_val x r m
  have e1 : prevW x r m = 0 := by
    unfold prevW hiW; rw [if_neg (by omega), zx (m - 1) (by omega)]; simp
  rw [e1, val_more zx m (by omega)] at e
  omega
/-- words that are moved up by q -/
def upW (f : Nat → Int) (q j : Nat) : Int := if q ≤ j then f (j - q) else 0
theorem val_up (f : Nat → Int) (q : Nat) : ∀ m, val (upW f q) (q + m) = val f m * 18446744073709551616 ^ q
  | 0 => by
    have : ∀ k, k ≤ q → val (upW f q) k = 0 := by
      intro k
      induction k with
      | zero => intro _; rfl
      | succ k ih =>
        intro hk
        show val (upW f q) k + upW f q k * 18446744073709551616 ^ k = 0
        rw [ih (by omega)]
        unfold upW; rw [if_neg (by omega)]; simp
    rw [Nat.add_zero, this q (Nat.le_refl _)]; simp [val]
  | m + 1 => by
    have ih := val_up f q m
    show val (upW f q) (q + m) + upW f q (q + m) * 18446744073709551616 ^ (q + m) = (val f m + f m * 18446744073709551616 ^ m) * 18446744073709551616 ^ q
    rw [ih]
    have e : upW f q (q + m) = f m := by unfold upW; rw [if_pos (by omega)]; congr 1; omega
    rw [e, Int.pow_add]
    generalize (18446744073709551616 : Int) ^ m = P
    generalize (18446744073709551616 : Int) ^ q = Q
    grind
theorem finL_up {x : Nat → Int} (hx : Words x) (q : Nat) {r : Nat} (hr : r < 64) : finL x q r = upW (shW x r) q := by
  funext j
  unfold finL upW
  by_cases h : q ≤ j
  · rw [if_pos h, if_pos h, ← shW_or hx hr (j - q)]
    congr 1
    unfold lowp prevW
    by_cases h0 : j - q = 0
    · rw [if_pos h0, if_neg (by omega)]
    · rw [if_neg h0]
      by_cases hr0 : 0 < r
      · rw [if_pos (by omega), hiW_eq _ (by omega)]
      · obtain rfl : r = 0 := by omega
        rw [if_neg (by omega)]
        unfold hiW
        have := hx (j - q - 1)
        omega
  · rw [if_neg h, if_neg h]
theorem p64 (q r : Nat) : (2 : Int) ^ r * 18446744073709551616 ^ q = 2 ^ (64 * q + r) := by
  rw [Int.pow_add, Int.pow_mul, Int.mul_comm]; rfl
/-- the value of what the document's Left lays -/
theorem finL_val {x : Nat → Int} {n : Nat} (hx : Words x) (zx : ∀ i, n ≤ i → x i = 0) (q : Nat) {r : Nat} (hr : r < 64) : val (finL x q r) (n + q + 1) = val x n * 2 ^ (64 * q + r) := by
  rw [finL_up hx q hr, show n + q + 1 = q + (n + 1) by omega, val_up, sh_end zx r (n + 1) (by omega), Int.mul_assoc, p64]
end Go.Proofs.YtkefmapcaggefaaDoor

namespace Go.Proofs.YtkefmapcaggefaaDoor
open Go.RowKit

/-- the words of z, from off on k of y's that are shifted by r laid over them -/
def upZ (z y : Nat → Int) (r off k j : Nat) : Int := if off ≤ j ∧ j < off + k then shW y r (j - off) else z j
theorem upZ_next (z y : Nat → Int) (r off k j : Nat) : (if j = off + k then shW y r k else upZ z y r off k j) = upZ z y r off (k + 1) j := by
  unfold upZ
  by_cases e : j = off + k
  · subst e
    rw [if_pos rfl, if_pos (by omega)]; congr 1; omega
  · rw [if_neg e]
    by_cases e2 : off ≤ j ∧ j < off + k
    · rw [if_pos e2, if_pos (by omega)]
    · rw [if_neg e2, if_neg (by omega)]

set_option maxHeartbeats 1000000 in
theorem shiftUp_any (g N off m c k c' r : Nat) (a' : Option Addr) (z y : Nat → Int) (w : World) (hm : off + m ≤ N) (hN : N < 4294967296) (hk : k < m) (hr : r < 64) (h : Own g N z w) (h' : Num w a' k c' y) (hA : Apart a' g) :
    Calls Tryd.prog 75 #[.slice (some ⟨g, off, none⟩) m c, .slice a' k c', .int .i64 r] w fun e w' => e = .returned (.tuple #[]) ∧ Own g N (upZ z y r off (k + 1)) w' ∧ Upd g w w' := by
  have hy := h'.2.2.1
  have hri : (r : Int) < 64 := by omega
  have e64 : ((64 : Int) - r).toNat = 64 - r := by omega
  have hk0 := h'.2.2.2.1 k (Nat.le_refl _)
  go_enter Tryd.func75, Tryd.ntmps75
  go_wp2
  go_loopw [6, 7, 8, 11] (fun cv u7 u8 i wr => ∃ (j : Nat), j ≤ k ∧ i = .int .i64 j ∧ cv = .int .u64 (prevW y r j) ∧ Own g N (upZ z y r off j) wr ∧ Upd g w wr) (fun _ _ _ i _ => k - (intOf i).toNat)
  case atStart => exact ⟨0, Nat.zero_le _, rfl, rfl, h.congr fun i _ => by unfold upZ; rw [if_neg (by omega)], Upd.refl _ _⟩
  case round =>
    obtain ⟨j, hj, rfl, rfl, hO, hU⟩ := hrel
    have hpb := prevW_word hy hr j
    by_cases hlt : j < k
    · have hji : (j : Int) < k := by omega
      have hjm : (j : Int) < m := by omega
      obtain ⟨b, off', rfl, hb, hc⟩ := (hU.num' hA h').cells (by omega)
      have hcj := hc j hlt
      have hco : ∃ u, wr.cell? ⟨g, off + j, none⟩ = some (.int .u64 u) := ⟨_, hO.cell (off + j) (by omega)⟩
      obtain ⟨u, hco⟩ := hco
      have hfo := hO.frozen (off + j)
      have b_y := hy j
      have HP : Hid (prevW y r (j + 1) = y j / 2 ^ (64 - r)) := by show _ = _; rw [hiW_eq _ (by omega)]; rfl
      have HS : Hid (bits BinOp.or IntKind.u64 (IntKind.u64.wrap (y j * 2 ^ r)) (prevW y r j) = shW y r j) := by
        show _ = _
        rw [← shW_or hy hr j]
        exact orW_comm _ _ (wrap_word _) hpb
      have HO : Hid (Own g N (upZ z y r off (j + 1)) (wr.setCell ⟨g, off + j, none⟩ (.int .u64 (shW y r j)))) := (hO.set (off + j) _).congr fun i _ => upZ_next z y r off j i
      have HU : Hid (Upd g w (wr.setCell ⟨g, off + j, none⟩ (.int .u64 (shW y r j)))) := hU.set (off + j) _
      rw [← HS.out] at HO HU
      clear hO hU hc h h' hA hy hk0 HS
      generalize prevW y r j = pv at *
      go_wp2
      go_roundw
      case rel => exact ⟨j + 1, by omega, by go_num, by rw [HP.out], HO.out, HU.out⟩
      case measure => simp [intOf]; omega
    · obtain rfl : j = k := by omega
      have hjm : (j : Int) < m := by omega
      have hco : ∃ u, wr.cell? ⟨g, off + j, none⟩ = some (.int .u64 u) := ⟨_, hO.cell (off + j) (by omega)⟩
      obtain ⟨u, hco⟩ := hco
      have hfo := hO.frozen (off + j)
      have e1 : shW y r j = prevW y r j := by unfold shW; rw [hk0]; simp
      have HO : Hid (Own g N (upZ z y r off (j + 1)) (wr.setCell ⟨g, off + j, none⟩ (.int .u64 (prevW y r j)))) := (hO.set (off + j) _).congr fun i _ => by rw [← e1]; exact upZ_next z y r off j i
      have HU : Hid (Upd g w (wr.setCell ⟨g, off + j, none⟩ (.int .u64 (prevW y r j)))) := hU.set (off + j) _
      clear hO hU h h' hA hy hk0 e1
      generalize prevW y r j = pv at *
      go_wp2
      go_end0
      exact ⟨rfl, HO.out, HU.out⟩

theorem bare_own {g N c : Nat} {z : Nat → Int} {w : World} {V : Int} (hO : Own g N z w) (hW : Words z) (hN : N < 4000000000) (hc : N ≤ c) (hc2 : c ≤ maxLen) (hv : val z N = V) :
    ∃ k z', k ≤ N ∧ Num w (some ⟨g, 0, none⟩) k c z' ∧ val z' k = V ∧ sizeL z' k = k ∧ Calls Tryd.prog 58 #[.slice (some ⟨g, 0, none⟩) N c] w fun e w' => e = .returned (.slice (some ⟨g, 0, none⟩) k c) ∧ w = w' := by
  have h := hO.num hW 0 N c (by omega) hc hc2
  refine ⟨sizeL (segW z 0 N) N, segW z 0 N, sizeL_le _ _, h.bare, ?_, sizeL_sizeL _ _, bare_any _ N c _ w (by omega) h⟩
  rw [val_bare, val_congr (x := segW z 0 N) (y := z) N fun i hi => by rw [segW_lt _ 0 N i hi, Nat.zero_add], hv]

set_option maxRecDepth 20000 in
set_option maxHeartbeats 1000000 in
theorem nshl_any (a : Option Addr) (n c : Nat) (x : Nat → Int) (d : Int) (w : World) (hn : n < 4000000000) (h : Num w a n c x) (hd : 0 ≤ d) (hs : (sizeL x n : Int) + (d + 63) / 64 ≤ 2000) :
    Calls Tryd.prog 68 #[.slice a n c, .int .i64 d] w fun e w' => ∃ g k cap z, e = .returned (.tuple #[.slice (some ⟨g, 0, none⟩) k cap, .int .i64 0]) ∧ k ≤ 2001 ∧ Num w' (some ⟨g, 0, none⟩) k cap z ∧ val z k = val x n * 2 ^ d.toNat ∧ sizeL z k = k ∧ Below w.heap.size w w' := by
  have hb := bare_any a n c x w (by omega) h
  rw [← val_bare n]
  have hx := h.2.2.1
  have hle := sizeL_le x n
  have hN := h.bare
  generalize sizeL x n = s at *
  clear h
  obtain ⟨q, hq⟩ : ∃ q : Nat, d / 64 = q := ⟨(d / 64).toNat, by omega⟩
  obtain ⟨r, hr⟩ : ∃ r : Nat, d % 64 = r := ⟨(d % 64).toNat, by omega⟩
  have hr64 : r < 64 := by omega
  have hdn : d.toNat = 64 * q + r := by omega
  rw [hdn]
  obtain ⟨N, hNs⟩ : ∃ N, s + q + 1 = N := ⟨_, rfl⟩
  have hNi : (s : Int) + q + 1 = N := by omega
  have hq2 : (q : Int) ≤ 2000 := by omega
  have hmk := fun w => make_any ((s : Int) + q + 1) N hNi (by omega) w
  have hA := apart_of hN
  have hO := Own.new w (fun _ => 0) N
  have hBW := below1 w (.cells (arrOf (fun _ => 0) N) 22)
  have hsu := shiftUp_any w.heap.size N q (N - q) (N - q) s c r a (fun _ => 0) x _ (by omega) (by omega) (by omega) hr64 hO (hN.next hBW) hA
  have hqN : (q : Int) ≤ N := by omega
  have HVL : Hid (val (upZ (fun _ => 0) x r q (s + 1)) N = val x s * 2 ^ (64 * q + r)) := by
    show _ = _
    rw [← hNs, show s + q + 1 = q + (s + 1) by omega]
    rw [val_congr (y := upW (shW x r) q) (q + (s + 1)) fun i hi => by
      unfold upZ upW
      by_cases e : q ≤ i
      · rw [if_pos (by omega), if_pos e]
      · rw [if_neg (by omega), if_neg e]]
    rw [val_up, sh_end hN.2.2.2.1 r (s + 1) (by omega), Int.mul_assoc, p64]
  have HW : Hid (Words (upZ (fun _ => 0) x r q (s + 1))) := fun i => by
    unfold upZ; split
    · exact shW_words hx hr64 _
    · exact (by decide : (0 : Int) ≤ 0 ∧ (0 : Int) ≤ 18446744073709551615)
  generalize hz : upZ (fun _ => 0) x r q (s + 1) = zz at *
  have HB : Hid (Below w.heap.size w (w.alloc (.cells (arrOf (fun _ => 0) N) 22))) := hBW
  have HNS : Hid (N ≤ 2001) := by show _ ≤ _; omega
  have hup : (s : Int) + q ≤ 2000 := by omega
  have hup2 : 0 < r → (s : Int) + (q + 1) ≤ 2000 := by omega
  clear hBW hN hA hO hNi hz hs hdn hx
  by_cases hr0 : 0 < r
  · have hr0' : (0 : Int) < r := by omega
    have hu := hup2 hr0
    clear hup2
    go_enter Tryd.func68, Tryd.ntmps68
    go_wp2_with (first | (go_at_call_of 58 (Value.slice a n c); refine hb.mono ?_; rintro e w' ⟨rfl, rfl⟩) | (go_at_call 75; refine hsu.mono ?_; rintro e w1 ⟨rfl, hO1, hU1⟩))
    obtain ⟨k, z', hkN, hNk, hvk, hsk, hbr⟩ := bare_own hO1 HW.out (by have := HNS.out; omega) (Nat.le_refl N) (by unfold maxLen; have := HNS.out; omega) HVL.out
    have HB2 : Hid (Below w.heap.size w w1) := HB.out.trans (hU1.below (Nat.le_refl _))
    have HNk : Hid (Num w1 (some ⟨w.heap.size, 0, none⟩) k N z') := hNk
    clear hO1 hU1 hNk
    go_wp2_with (go_at_call 58; refine hbr.mono ?_; rintro e w3 ⟨rfl, rfl⟩)
    go_ret2
    exact ⟨_, k, N, z', rfl, by have := HNS.out; omega, HNk.out, hvk, hsk, HB2.out⟩
  · obtain rfl : r = 0 := by omega
    clear hup2
    go_enter Tryd.func68, Tryd.ntmps68
    go_wp2_with (first | (go_at_call_of 58 (Value.slice a n c); refine hb.mono ?_; rintro e w' ⟨rfl, rfl⟩) | (go_at_call 75; refine hsu.mono ?_; rintro e w1 ⟨rfl, hO1, hU1⟩))
    obtain ⟨k, z', hkN, hNk, hvk, hsk, hbr⟩ := bare_own hO1 HW.out (by have := HNS.out; omega) (Nat.le_refl N) (by unfold maxLen; have := HNS.out; omega) HVL.out
    have HB2 : Hid (Below w.heap.size w w1) := HB.out.trans (hU1.below (Nat.le_refl _))
    have HNk : Hid (Num w1 (some ⟨w.heap.size, 0, none⟩) k N z') := hNk
    clear hO1 hU1 hNk
    go_wp2_with (go_at_call 58; refine hbr.mono ?_; rintro e w3 ⟨rfl, rfl⟩)
    go_ret2
    exact ⟨_, k, N, z', rfl, by have := HNS.out; omega, HNk.out, hvk, hsk, HB2.out⟩
end Go.Proofs.YtkefmapcaggefaaDoor

namespace Go.Proofs.YtkefmapcaggefaaDoor
open Go.RowKit
attribute [local go_sem] setCell_drewN alloc_drewN

/-- whether a bit goes out that is 1 -/
def goneB (x : Nat → Int) (q r : Nat) : Bool := decide (0 < sizeL x q) || decide (x q % 2 ^ r ≠ 0)
theorem and_mask {y : Int} {r : Nat} (hy : 0 ≤ y ∧ y ≤ 18446744073709551615) (hr : r < 64) : bits BinOp.and IntKind.u64 y (2 ^ r - 1) = y % 2 ^ r := by
  have h1 := p2_pos r
  have h2 := p2_le hr
  rw [u64_and _ _ hy.1 (by omega) (by omega) (by omega)]
  obtain ⟨n, rfl⟩ := Int.eq_ofNat_of_zero_le hy.1
  have e : ((2 : Int) ^ r - 1).toNat = 2 ^ r - 1 := by rw [← powCast]; omega
  rw [e, Int.toNat_natCast, Nat.and_two_pow_sub_one_eq_mod, Int.natCast_emod, powCast]

end Go.Proofs.YtkefmapcaggefaaDoor
