/-
  What nat's Sub does: a contract.
-/
import Derived.Test.YtcjbdmgaooojlaaDoorNad
set_option linter.unusedVariables false
set_option linter.unusedSimpArgs false
set_option maxRecDepth 20000
namespace Go.Proofs.YtcjbdmgaooojlaaDoor
open Go.RowKit

/-- the words of x, y's lowest k taken from them -/
def subZ (x y : Nat → Int) (k j : Nat) : Int := if j < k then difW x y j else x j
theorem subZ_next (x y : Nat → Int) (k j : Nat) : (if j = k then difW x y k else subZ x y k j) = subZ x y (k + 1) j := by
  unfold subZ
  by_cases e : j = k
  · subst e
    rw [if_pos rfl, if_pos (by omega)]
  · rw [if_neg e]
    by_cases e2 : j < k
    · rw [if_pos e2, if_pos (by omega)]
    · rw [if_neg e2, if_neg (by omega)]
theorem subZ_at (x y : Nat → Int) (k : Nat) : subZ x y k k = x k := by unfold subZ; rw [if_neg (by omega)]
theorem bor_val {x y b : Int} (hx : 0 ≤ x ∧ x ≤ 18446744073709551615) (hy : 0 ≤ y ∧ y ≤ 18446744073709551615) (hb : 0 ≤ b ∧ b ≤ 1) : (x - y - b) % 18446744073709551616 - bor x y b * 18446744073709551616 = x - y - b := by
  unfold bor; split <;> omega
theorem dif_val {x y : Nat → Int} (hx : Words x) (hy : Words y) : ∀ n, val (difW x y) n - borW x y n * 18446744073709551616 ^ n = val x n - val y n
  | 0 => by simp [val, borW]
  | n + 1 => by
    have ih := dif_val hx hy n
    have h := bor_val (hx n) (hy n) (borW_01 x y n)
    show val (difW x y) n + difW x y n * 18446744073709551616 ^ n - bor (x n) (y n) (borW x y n) * 18446744073709551616 ^ (n + 1) = val x n + x n * 18446744073709551616 ^ n - (val y n + y n * 18446744073709551616 ^ n)
    have hd : difW x y n = (x n - y n - borW x y n) % 18446744073709551616 := rfl
    rw [← hd] at h
    rw [Int.pow_succ]
    generalize (18446744073709551616 : Int) ^ n = P at *
    grind
theorem borW_stop {x y : Nat → Int} (hx : Words x) {k : Nat} (zy : ∀ i, k ≤ i → y i = 0) {i : Nat} (hi : k ≤ i) (h0 : borW x y i = 0) : ∀ j, i ≤ j → borW x y j = 0 ∧ difW x y j = x j := by
  have h1 : ∀ j, i ≤ j → borW x y j = 0 := by
    intro j hj
    induction j with
    | zero => obtain rfl : i = 0 := by omega
              exact h0
    | succ j ih =>
      by_cases e : i = j + 1
      · rw [← e]; exact h0
      · have hb := hx j
        show bor (x j) (y j) (borW x y j) = 0
        rw [ih (by omega), zy j (by omega)]; unfold bor; rw [if_neg (by omega)]
  intro j hj
  refine ⟨h1 j hj, ?_⟩
  have hb := hx j
  unfold difW
  rw [h1 j hj, zy j (by omega)]; omega
/-- no borrow is left over where y is no greater -/
theorem borW_end {x y : Nat → Int} (hx : Words x) (hy : Words y) {n : Nat} (h : val y n ≤ val x n) : borW x y n = 0 := by
  have e := dif_val hx hy n
  have h1 := val_bd (difW_words x y) n
  have h2 := borW_01 x y n
  have h3 := pw_pos n
  by_cases h0 : borW x y n = 0
  · exact h0
  · have : borW x y n = 1 := by omega
    rw [this] at e; omega

set_option maxHeartbeats 2000000 in
theorem nsub_less (a a' : Option Addr) (n c n' c' : Nat) (x y : Nat → Int) (w : World) (hn : n < 4000000000) (hn' : n' < 4000000000) (h : Num w a n c x) (h' : Num w a' n' c' y) (hv : val x n < val y n') :
    Calls Tryd.prog 50 #[.slice a n c, .slice a' n' c'] w fun e w' => e = .returned (.tuple #[.slice none 0 0, .int .i64 3]) ∧ Below w.heap.size w w' := by
  have hc := ncmp_any a a' n c n' c' x y w (by omega) (by omega) h h'
  have e : sgn (val x n) (val y n') = -1 := by unfold sgn; rw [if_pos hv]
  rw [e] at hc
  clear h h' hv e
  go_enter Tryd.func50, Tryd.ntmps50
  go_wp2_with (go_at_call 75; refine hc.mono ?_; rintro e w' ⟨rfl, m, rfl⟩)
  go_ret2
  exact ⟨rfl, below_drewN (Below.refl _ _) m⟩

set_option maxHeartbeats 2000000 in
theorem nsub_any (a a' : Option Addr) (n c n' c' : Nat) (x y : Nat → Int) (w : World) (hn : n < 4000000000) (hn' : n' < 4000000000) (h : Num w a n c x) (h' : Num w a' n' c' y) (hv : val y n' ≤ val x n) :
    Calls Tryd.prog 50 #[.slice a n c, .slice a' n' c'] w fun e w' => ∃ g k cap z, e = .returned (.tuple #[.slice (some ⟨g, 0, none⟩) k cap, .int .i64 0]) ∧ k ≤ sizeL x n ∧ Num w' (some ⟨g, 0, none⟩) k cap z ∧ val z k = val x n - val y n' ∧ sizeL z k = k ∧ Below w.heap.size w w' := by
  have hc := ncmp_any a a' n c n' c' x y w (by omega) (by omega) h h'
  have hsg : 0 ≤ sgn (val x n) (val y n') := by unfold sgn; rw [if_neg (by omega)]; split <;> omega
  have hsb := sgn_bd (val x n) (val y n')
  generalize sgn (val x n) (val y n') = sg at *
  have ht := fun wr hN => ntrim_any a n c x wr (by omega) hN
  have hb' := fun wr hN => bare_any a' n' c' y wr (by omega) hN
  have hx := h.2.2.1
  have hy := h'.2.2.1
  have hle := sizeL_le x n
  have hle' := sizeL_le y n'
  have hvx := val_bare (x := x) n
  have hvy := val_bare (x := y) n'
  have hss : sizeL y n' ≤ sizeL x n := by
    rcases Nat.lt_or_ge (sizeL x n) (sizeL y n') with h1 | h1
    · have := val_longer hx hy h1 (sizeL_sizeL y n'); omega
    · exact h1
  have zx := h.bare.2.2.2.1
  have zy := h'.bare.2.2.2.1
  have HNb : Hid (Num w a' (sizeL y n') c' y) := h'.bare
  rw [← hvx, ← hvy] at hv ⊢
  generalize sizeL x n = s at *
  generalize sizeL y n' = s' at *
  have hend : borW x y s = 0 := borW_end hx hy (by rw [val_more zy s hss]; exact hv)
  have HV : Hid (val (difW x y) s = val x s - val y s') := by
    show _ = _
    have e := dif_val hx hy s
    rw [hend, val_more zy s hss] at e
    omega
  have HN : Hid (Num w a n c x) := h
  have HN' : Hid (Num w a' n' c' y) := h'
  clear h h' hv hvx hvy zx
  go_enter Tryd.func50, Tryd.ntmps50
  go_wp2_with (go_at_call 75; refine hc.mono ?_; rintro e wC ⟨rfl, m, hwC⟩)
  have hBC : Below w.heap.size w wC := by rw [← hwC]; exact below_drewN (Below.refl _ _) m
  have hg : wC.heap.size = w.heap.size := by rw [← hwC]; rfl
  have h1 := ht wC (HN.out.next hBC)
  rw [hg] at h1
  go_wp2_with (go_at_call 76; refine h1.mono ?_; rintro e w1 ⟨rfl, hw1⟩)
  have hB1 : Below w.heap.size wC w1 := by rw [← hw1]; have := below1 wC (.cells (arrOf x s) 37); rw [hg] at this; exact this
  have hO1 : Own w.heap.size s x w1 := by rw [← hw1]; have := Own.new wC x s; rw [hg] at this; exact this
  have hBw1 := hBC.trans hB1
  have h2 := hb' w1 (HN'.out.next hBw1)
  clear hw1 h1 ht hb' hc hB1 hBC hwC hg
  go_wp2_with (go_at_call 45; refine h2.mono ?_; rintro e w2 ⟨rfl, rfl⟩)
  have hNb := HNb.out.next hBw1
  have hA : Apart a' w.heap.size := by
    intro p hp
    rcases HNb.out.2.2.2.2 with ⟨h, _⟩ | ⟨b, off, h, hb, _⟩
    · rw [h] at hp; cases hp
    · rw [h] at hp; cases hp; exact Nat.ne_of_lt hb
  clear h2 HNb HN HN'
  go_loopw [8, 9, 10, 22, 27] (fun bv u9 u10 i u27 wr => ∃ (j : Nat), j ≤ s' ∧ i = .int .i64 j ∧ bv = .int .u64 (borW x y j) ∧ Own w.heap.size s (subZ x y j) wr ∧ Upd w.heap.size w1 wr) (fun _ _ _ i _ _ => s' - (intOf i).toNat)
  case atStart => exact ⟨0, Nat.zero_le _, rfl, rfl, hO1.congr fun i _ => by unfold subZ; rw [if_neg (by omega)], Upd.refl _ _⟩
  case round =>
    clear hO1
    obtain ⟨j, hj, rfl, rfl, hO, hU⟩ := hrel
    have hbo := borW_01 x y j
    by_cases hlt : j < s'
    · have hji : (j : Int) < s' := by omega
      have hjm : (j : Int) < s := by omega
      obtain ⟨b, off', rfl, hb, hc⟩ := (hU.num' hA hNb).cells (by omega)
      have hcj := hc j hlt
      have hco := hO.cell j (by omega)
      rw [subZ_at] at hco
      have hfo := hO.frozen j
      have bx := hx j
      have b_y := hy j
      have hadd := fun w => sub64 (x j) (y j) (borW x y j) bx.1 b_y.1 (by omega) hbo.1 hbo.2 w
      have HO : Hid (Own w.heap.size s (subZ x y (j + 1)) (wr.setCell ⟨w.heap.size, j, none⟩ (.int .u64 (difW x y j)))) := (hO.set j _).congr fun i _ => subZ_next x y j i
      have HU : Hid (Upd w.heap.size w1 (wr.setCell ⟨w.heap.size, j, none⟩ (.int .u64 (difW x y j)))) := hU.set j _
      clear hO hU hc hNb hA hx hy zy hend
      go_wp2
      go_roundw
      case rel => exact ⟨j + 1, by omega, by go_num, rfl, HO.out, HU.out⟩
      case measure => simp [intOf]; omega
    · obtain rfl : j = s' := by omega
      have HO : Hid (Own w.heap.size s (subZ x y j) wr) := hO
      have HU : Hid (Upd w.heap.size w1 wr) := hU
      clear hO hU hNb hA
      go_wp2
      go_loopw [8, 11, 47] (fun bv i u47 wr => ∃ (q : Nat), j + q ≤ s ∧ i = .int .i64 ((j : Int) + q) ∧ bv = .int .u64 (borW x y (j + q)) ∧ Own w.heap.size s (subZ x y (j + q)) wr ∧ Upd w.heap.size w1 wr) (fun _ i _ _ => s - (intOf i).toNat)
      case atStart => exact ⟨0, by omega, by go_num, rfl, HO.out, HU.out⟩
      case round =>
        clear HO HU
        obtain ⟨q, hq, rfl, rfl, hO, hU⟩ := hrel
        have hbo := borW_01 x y (j + q)
        by_cases hb0 : borW x y (j + q) = 0
        · have hO2 : Own w.heap.size s (difW x y) wr := hO.congr fun i hi => by
            unfold subZ
            by_cases e : i < j + q
            · rw [if_pos e]
            · rw [if_neg e]; exact ((borW_stop hx zy (by omega) hb0 i (by omega)).2).symm
          have hN2 := hO2.num (difW_words x y) 0 s s (by omega) (Nat.le_refl _) (by unfold maxLen; omega)
          have hbr := bare_any (some ⟨w.heap.size, 0, none⟩) s s (segW (difW x y) 0 s) wr (by omega) hN2
          have HN2 : Hid (Num wr (some ⟨w.heap.size, 0, none⟩) (sizeL (segW (difW x y) 0 s) s) s (segW (difW x y) 0 s)) := hN2.bare
          have HV2 : Hid (val (segW (difW x y) 0 s) (sizeL (segW (difW x y) 0 s) s) = val x s - val y j) := by
            show _ = _
            rw [val_bare, val_congr (x := segW (difW x y) 0 s) (y := difW x y) s fun i hi => by rw [segW_lt _ 0 s i hi, Nat.zero_add], HV.out]
          have HS2 : Hid (sizeL (segW (difW x y) 0 s) (sizeL (segW (difW x y) 0 s) s) = sizeL (segW (difW x y) 0 s) s) := sizeL_sizeL _ _
          have HLE : Hid (sizeL (segW (difW x y) 0 s) s ≤ s) := sizeL_le _ _
          generalize segW (difW x y) 0 s = z at *
          generalize sizeL z s = k at *
          have HB2 : Hid (Below w.heap.size w wr) := hBw1.trans (hU.below (Nat.le_refl _))
          rw [hb0]
          clear hO hO2 hU hN2 hx hy zy hend HV
          go_wp2_with (go_at_call 45; refine hbr.mono ?_; rintro e w3 ⟨rfl, rfl⟩)
          go_ret2
          exact ⟨_, k, s, z, rfl, HLE.out, HN2.out, HV2.out, HS2.out, HB2.out⟩
        · have hlt2 : j + q < s := by
            rcases Nat.lt_or_ge (j + q) s with h' | h'
            · exact h'
            · obtain e : j + q = s := by omega
              rw [e] at hb0; exact absurd hend hb0
          have hpos : 0 < borW x y (j + q) := by omega
          have hji : (j : Int) + q < s := by omega
          have e1 : ((j : Int) + q).toNat = j + q := by omega
          have hco := hO.cell (j + q) hlt2
          rw [subZ_at] at hco
          have hfo := hO.frozen (j + q)
          have bx := hx (j + q)
          have hs : difW x y (j + q) = (x (j + q) - borW x y (j + q)) % 18446744073709551616 := by unfold difW; rw [zy _ (by omega), Int.sub_zero]
          have HC : Hid (borW x y (j + (q + 1)) = bor (x (j + q)) 0 (borW x y (j + q))) := by
            show bor (x (j + q)) (y (j + q)) (borW x y (j + q)) = _
            rw [zy _ (by omega)]
          have hadd := fun w => sub64 (x (j + q)) 0 (borW x y (j + q)) bx.1 (by decide) (by decide) hbo.1 hbo.2 w
          have HO : Hid (Own w.heap.size s (subZ x y (j + (q + 1))) (wr.setCell ⟨w.heap.size, j + q, none⟩ (.int .u64 (difW x y (j + q))))) := (hO.set (j + q) _).congr fun i _ => subZ_next x y (j + q) i
          have HU : Hid (Upd w.heap.size w1 (wr.setCell ⟨w.heap.size, j + q, none⟩ (.int .u64 (difW x y (j + q))))) := hU.set (j + q) _
          rw [hs] at HO HU
          clear hO hU hx hy zy hb0 hs hend
          go_wp2
          go_roundw
          case rel => exact ⟨q + 1, by omega, by go_num, by rw [HC.out], HO.out, HU.out⟩
          case measure => simp [intOf]; omega
end Go.Proofs.YtcjbdmgaooojlaaDoor
