/-
  Texts that the proof leans on.
-/
import Derived.Test.YtiojbgdfmabjdaaDoorJ13
set_option linter.unusedVariables false
set_option linter.unusedSimpArgs false
set_option linter.unusedSectionVars false
set_option maxRecDepth 20000
namespace Go.Proofs.YtiojbgdfmabjdaaDoor
open Go.RowKit
/-- block g is N words, those of x, none of them frozen -/
def Own (g N : Nat) (x : Nat → Int) (w : World) : Prop := w.heap[g]? = some (.cells (arrOf x N) 22)
/-- all but block g is as it was (the count of draws aside) -/
structure Upd (g : Nat) (w w' : World) : Prop where
  os : w'.os = w.os
  tape : w'.tape = w.tape
  output : w'.output = w.output
  size : w'.heap.size = w.heap.size
  block : ∀ k, k ≠ g → w'.heap[k]? = w.heap[k]?
theorem Upd.refl (g : Nat) (w : World) : Upd g w w := ⟨rfl, rfl, rfl, rfl, fun _ _ => rfl⟩
theorem Upd.trans {g : Nat} {a b c : World} (h : Upd g a b) (k : Upd g b c) : Upd g a c :=
  ⟨k.os.trans h.os, k.tape.trans h.tape, k.output.trans h.output, k.size.trans h.size, fun i hi => (k.block i hi).trans (h.block i hi)⟩
theorem Upd.drewN {g : Nat} {a b : World} (h : Upd g a b) (m : Nat) : Upd g a (b.drewN m) := ⟨h.os, h.tape, h.output, h.size, h.block⟩
theorem Upd.drew {g : Nat} {a b : World} (h : Upd g a b) : Upd g a b.drew := ⟨h.os, h.tape, h.output, h.size, h.block⟩
theorem Upd.set {g : Nat} {a b : World} (h : Upd g a b) (i : Nat) (v : Value) : Upd g a (b.setCell ⟨g, i, none⟩ v) :=
  h.trans ⟨rfl, rfl, rfl, by simp [World.setCell], fun k hk => Below.heap_setCell _ _ _ _ hk⟩
theorem Upd.below {g B : Nat} {w w' : World} (h : Upd g w w') (hB : B ≤ g) : Below B w w' := ⟨h.os, h.tape, h.output, Nat.le_of_eq h.size.symm, fun k hk => h.block k (by omega)⟩
theorem Upd.num {g : Nat} {w w' : World} {b off n c : Nat} {x : Nat → Int} (h : Upd g w w') (hb : b ≠ g) (hN : Num w (some ⟨b, off, none⟩) n c x) : Num w' (some ⟨b, off, none⟩) n c x := by
  obtain ⟨h1, h2, h3, h4, h5⟩ := hN
  refine ⟨h1, h2, h3, h4, ?_⟩
  rcases h5 with ⟨h5, _⟩ | ⟨b', off', h6, h7, h8⟩
  · cases h5
  · cases h6
    exact Or.inr ⟨b, off, rfl, by rw [h.size]; exact h7, fun i hi => (World.cell?_of_block (w := w) (a := ⟨b, off + i, none⟩) (h.block b hb)).trans (h8 i hi)⟩
/-- a number that lies elsewhere stays -/
def Apart (a : Option Addr) (g : Nat) : Prop := ∀ p, a = some p → p.block ≠ g
theorem Upd.num' {g : Nat} {w w' : World} {a : Option Addr} {n c : Nat} {x : Nat → Int} (h : Upd g w w') (hb : Apart a g) (hN : Num w a n c x) : Num w' a n c x := by
  have hN' := hN
  obtain ⟨h1, h2, h3, h4, h5⟩ := hN'
  rcases h5 with ⟨rfl, rfl⟩ | ⟨b', off', rfl, h7, h8⟩
  · exact ⟨h1, h2, h3, h4, Or.inl ⟨rfl, rfl⟩⟩
  · exact h.num (hb _ rfl) hN
theorem Upd.own {g g' N : Nat} {w w' : World} {x : Nat → Int} (h : Upd g w w') (hb : g' ≠ g) (hN : Own g' N x w) : Own g' N x w' := (h.block g' hb).trans hN
theorem Below.own {B g N : Nat} {w w' : World} {x : Nat → Int} (h : Below B w w') (hb : g < B) (hN : Own g N x w) : Own g N x w' := (h.block g hb).trans hN

theorem Own.lt {g N : Nat} {x : Nat → Int} {w : World} (h : Own g N x w) : g < w.heap.size := by
  rcases Nat.lt_or_ge g w.heap.size with h' | h'
  · exact h'
  · unfold Own at h; rw [Array.getElem?_eq_none h'] at h; cases h
theorem Own.cell {g N : Nat} {x : Nat → Int} {w : World} (h : Own g N x w) (i : Nat) (hi : i < N) : w.cell? ⟨g, i, none⟩ = some (.int .u64 (x i)) := by
  unfold World.cell?
  have hh : w.heap[g]? = some (.cells (arrOf x N) 22) := h
  simp [hh, arrOf_get? x N i hi]
theorem Own.frozen {g N : Nat} {x : Nat → Int} {w : World} (h : Own g N x w) (i : Nat) : w.frozen? ⟨g, i, none⟩ = false := by
  unfold World.frozen?
  have hh : w.heap[g]? = some (.cells (arrOf x N) 22) := h
  simp [hh]
theorem Own.set {g N : Nat} {x : Nat → Int} {w : World} (h : Own g N x w) (i : Nat) (v : Int) : Own g N (fun j => if j = i then v else x j) (w.setCell ⟨g, i, none⟩ (.int .u64 v)) := by
  have hh : w.heap[g]? = some (.cells (arrOf x N) 22) := h
  show (w.setCell ⟨g, i, none⟩ (.int .u64 v)).heap[g]? = _
  simp only [World.setCell, Array.getElem?_modify, if_true, hh]
  simp [arrOf_set]
theorem Own.congr {g N : Nat} {x y : Nat → Int} {w : World} (h : Own g N x w) (e : ∀ i, i < N → x i = y i) : Own g N y w := by
  unfold Own; rw [← arrOf_congr e]; exact h
theorem Own.new (w : World) (x : Nat → Int) (N : Nat) : Own w.heap.size N x (w.alloc (.cells (arrOf x N) 22)) := (MapKept.heap_alloc w _).1
/-- words off to off + m of the block, as a number -/
def segW (x : Nat → Int) (off m i : Nat) : Int := if i < m then x (off + i) else 0
theorem segW_words {x : Nat → Int} (hx : Words x) (off m : Nat) : Words (segW x off m) := fun i => by unfold segW; split; exact hx _; decide
theorem segW_zero (x : Nat → Int) (off m i : Nat) (h : m ≤ i) : segW x off m i = 0 := by unfold segW; rw [if_neg (by omega)]
theorem segW_lt (x : Nat → Int) (off m i : Nat) (h : i < m) : segW x off m i = x (off + i) := by unfold segW; rw [if_pos h]
theorem Own.num {g N : Nat} {x : Nat → Int} {w : World} (h : Own g N x w) (hx : Words x) (off m c : Nat) (hm : off + m ≤ N) (hc : m ≤ c) (hc2 : c ≤ maxLen) : Num w (some ⟨g, off, none⟩) m c (segW x off m) :=
  ⟨hc, hc2, segW_words hx off m, fun i hi => segW_zero x off m i hi, Or.inr ⟨g, off, rfl, h.lt, fun i hi => by rw [h.cell (off + i) (by omega), segW_lt x off m i hi]⟩⟩
section
/-- the quotient's words from word k on, the number's own below it -/
def divZ (x : Nat → Int) (d : Int) (m k i : Nat) : Int := if k ≤ i ∧ i < m then quoW x d m i else x i

set_option maxHeartbeats 1000000 in
theorem divideBy_any (g N m c : Nat) (x : Nat → Int) (d : Int) (w : World) (hm : m ≤ N) (hm2 : m < 4294967296) (hx : Words x) (hd : 0 < d ∧ d ≤ 18446744073709551615) (h : Own g N x w) :
    Calls Tryd.prog 80 #[.slice (some ⟨g, 0, none⟩) m c, .int .u64 d] w fun e w' => e = .returned (.int .u64 (remJ x d m m)) ∧ Own g N (divZ x d m 0) w' ∧ Upd g w w' := by
  have H := fun j hj w => limDiv_ok x d m hx hd j hj w
  have hd0 : (d == 0) = false := by simp; omega
  go_enter Tryd.func80, Tryd.ntmps80
  go_wp2
  go_loopw [5, 6, 14] (fun c i u14 wr => ∃ (k : Nat), k ≤ m ∧ i = .int .i64 ((k : Int) - 1) ∧ c = .int .u64 (remJ x d m (m - k)) ∧ Own g N (divZ x d m k) wr ∧ Upd g w wr) (fun _ i _ _ => (intOf i + 1).toNat)
  case atStart => exact ⟨m, Nat.le_refl _, rfl, by rw [Nat.sub_self]; rfl, h.congr fun i _ => by unfold divZ; rw [if_neg (by omega)], Upd.refl _ _⟩
  case round =>
    obtain ⟨k, hk, rfl, rfl, hO, hU⟩ := hrel
    by_cases h0 : k = 0
    · subst h0
      have HO : Hid (Own g N (divZ x d m 0) wr) := hO
      have HU : Hid (Upd g w wr) := hU
      clear hO hU H
      go_wp2
      go_ret
      exact ⟨rfl, HO.out, HU.out⟩
    · obtain ⟨j, rfl⟩ : ∃ j, k = j + 1 := ⟨k - 1, by omega⟩
      have hjm : (j : Int) < m := by omega
      have ej : ((j + 1 : Nat) : Int) - 1 = j := by omega
      have ej2 : m - (j + 1) = m - 1 - j := by omega
      rw [ej, ej2]
      have hcj := hO.cell j (by omega)
      have hzj : divZ x d m (j + 1) j = x j := by unfold divZ; rw [if_neg (by omega)]
      rw [hzj] at hcj
      have hfj := hO.frozen j
      have HJ := H j (by omega)
      have HO : Hid (Own g N (divZ x d m j) (wr.setCell ⟨g, j, none⟩ (.int .u64 (quoW x d m j)))) := (hO.set j (quoW x d m j)).congr fun i hi => by
        unfold divZ
        by_cases e : i = j
        · subst e; rw [if_pos rfl, if_pos (by omega)]
        · rw [if_neg e]
          by_cases e2 : j + 1 ≤ i ∧ i < m
          · rw [if_pos e2, if_pos (by omega)]
          · rw [if_neg e2, if_neg (by omega)]
      have HU : Hid (Upd g w (wr.setCell ⟨g, j, none⟩ (.int .u64 (quoW x d m j)))) := hU.set j _
      clear hO hU H ej ej2 hzj
      go_wp2_with (go_at_call 85; refine (HJ _).mono ?_; rintro e w' ⟨rfl, m', rfl⟩)
      go_roundw
      case rel => exact ⟨j, by omega, by go_num, rfl, HO.out, HU.out.drewN m'⟩
      case measure => simp [intOf]
end
section
theorem sizeL_congr {x y : Nat → Int} : ∀ n, (∀ i, i < n → x i = y i) → sizeL x n = sizeL y n
  | 0, _ => rfl
  | n + 1, h => by simp only [sizeL]; rw [h n (by omega), sizeL_congr n fun i hi => h i (by omega)]
theorem val_bare {x : Nat → Int} (m : Nat) : val x (sizeL x m) = val x m := by
  have h1 := val_more (sizeL_zero m fun i hi => segW_zero x 0 m i hi) m (sizeL_le _ m)
  have h2 : sizeL (segW x 0 m) m = sizeL x m := sizeL_congr m fun i hi => by rw [segW_lt x 0 m i hi, Nat.zero_add]
  rw [h2] at h1
  have hle := sizeL_le x m
  rw [val_congr (x := segW x 0 m) (y := x) m fun i hi => by rw [segW_lt x 0 m i hi, Nat.zero_add], val_congr (x := segW x 0 m) (y := x) (sizeL x m) fun i hi => by rw [segW_lt x 0 m i (by omega), Nat.zero_add]] at h1
  exact h1.symm

/-- -1, 0, 1 -/
def sgn (a b : Int) : Int := if a < b then -1 else if b < a then 1 else 0
theorem sgn_add (a b t : Int) : sgn (a + t) (b + t) = sgn a b := by
  unfold sgn
  by_cases h : a < b
  · rw [if_pos h, if_pos (by omega)]
  · rw [if_neg h, if_neg (by omega)]
    by_cases h' : b < a
    · rw [if_pos h', if_pos (by omega)]
    · rw [if_neg h', if_neg (by omega)]
theorem drw2 (w : World) (m a b : Nat) : ∃ k, w.drewN k = ((w.drewN m).drewN a).drewN b := ⟨m + a + b, by simp [World.drewN, Nat.add_assoc]⟩
theorem compare_u64 (a b : Int) (w : World) : Calls Tryd.prog 67 #[.int .u64 a, .int .u64 b] w fun e w' => e = .returned (.int .i64 (sgn a b)) ∧ w = w' := by
  have hN : ∀ (a : Int), Calls Tryd.prog 79 #[.int .u64 a] w fun e w' => e = .returned (.bool false) ∧ w = w' := by
    intro a
    go_enter Tryd.func79, Tryd.ntmps79
    go_wp2
    go_ret
    exact ⟨rfl, rfl⟩
  have ha := hN a
  have hb := hN b
  clear hN
  by_cases h1 : a < b
  · have HS : Hid (sgn a b = -1) := by show _ = _; unfold sgn; rw [if_pos h1]
    go_enter Tryd.func67, Tryd.ntmps67
    go_wp2_with (go_at_call 79; first | (refine ha.mono ?_; rintro e w' ⟨rfl, rfl⟩) | (refine hb.mono ?_; rintro e w' ⟨rfl, rfl⟩))
    go_ret
    exact ⟨ret_int HS.out.symm, rfl⟩
  · by_cases h2 : b < a
    · have HS : Hid (sgn a b = 1) := by show _ = _; unfold sgn; rw [if_neg h1, if_pos h2]
      go_enter Tryd.func67, Tryd.ntmps67
      go_wp2_with (go_at_call 79; first | (refine ha.mono ?_; rintro e w' ⟨rfl, rfl⟩) | (refine hb.mono ?_; rintro e w' ⟨rfl, rfl⟩))
      go_ret
      exact ⟨ret_int HS.out.symm, rfl⟩
    · have HS : Hid (sgn a b = 0) := by show _ = _; unfold sgn; rw [if_neg h1, if_neg h2]
      go_enter Tryd.func67, Tryd.ntmps67
      go_wp2_with (go_at_call 79; first | (refine ha.mono ?_; rintro e w' ⟨rfl, rfl⟩) | (refine hb.mono ?_; rintro e w' ⟨rfl, rfl⟩))
      go_ret
      exact ⟨ret_int HS.out.symm, rfl⟩
theorem compare_int (a b : Int) (w : World) : Calls Tryd.prog 66 #[.int .i64 a, .int .i64 b] w fun e w' => e = .returned (.int .i64 (sgn a b)) ∧ w = w' := by
  have hN : ∀ (a : Int), Calls Tryd.prog 78 #[.int .i64 a] w fun e w' => e = .returned (.bool false) ∧ w = w' := by
    intro a
    go_enter Tryd.func78, Tryd.ntmps78
    go_wp2
    go_ret
    exact ⟨rfl, rfl⟩
  have ha := hN a
  have hb := hN b
  clear hN
  by_cases h1 : a < b
  · have HS : Hid (sgn a b = -1) := by show _ = _; unfold sgn; rw [if_pos h1]
    go_enter Tryd.func66, Tryd.ntmps66
    go_wp2_with (go_at_call 78; first | (refine ha.mono ?_; rintro e w' ⟨rfl, rfl⟩) | (refine hb.mono ?_; rintro e w' ⟨rfl, rfl⟩))
    go_ret
    exact ⟨ret_int HS.out.symm, rfl⟩
  · by_cases h2 : b < a
    · have HS : Hid (sgn a b = 1) := by show _ = _; unfold sgn; rw [if_neg h1, if_pos h2]
      go_enter Tryd.func66, Tryd.ntmps66
      go_wp2_with (go_at_call 78; first | (refine ha.mono ?_; rintro e w' ⟨rfl, rfl⟩) | (refine hb.mono ?_; rintro e w' ⟨rfl, rfl⟩))
      go_ret
      exact ⟨ret_int HS.out.symm, rfl⟩
    · have HS : Hid (sgn a b = 0) := by show _ = _; unfold sgn; rw [if_neg h1, if_neg h2]
      go_enter Tryd.func66, Tryd.ntmps66
      go_wp2_with (go_at_call 78; first | (refine ha.mono ?_; rintro e w' ⟨rfl, rfl⟩) | (refine hb.mono ?_; rintro e w' ⟨rfl, rfl⟩))
      go_ret
      exact ⟨ret_int HS.out.symm, rfl⟩

/-- comparing words from the highest on is comparing values -/
theorem cmpL_val {x y : Nat → Int} (hx : Words x) (hy : Words y) : ∀ n, cmpL x y n = sgn (val x n) (val y n)
  | 0 => by simp [cmpL, sgn, val]
  | n + 1 => by
    have hxb := val_bd hx n
    have hyb := val_bd hy n
    have ih := cmpL_val hx hy n
    have hp := pw_pos n
    have e1 : val x (n + 1) = val x n + x n * 18446744073709551616 ^ n := rfl
    have e2 : val y (n + 1) = val y n + y n * 18446744073709551616 ^ n := rfl
    rw [e1, e2]
    simp only [cmpL]
    generalize (18446744073709551616 : Int) ^ n = P at *
    by_cases h1 : x n < y n
    · rw [if_pos h1]
      have : (x n + 1) * P ≤ y n * P := Int.mul_le_mul_of_nonneg_right (by omega) (by omega)
      rw [Int.add_mul, Int.one_mul] at this
      unfold sgn; rw [if_pos (by omega)]
    · rw [if_neg h1]
      by_cases h2 : y n < x n
      · rw [if_pos h2]
        have : (y n + 1) * P ≤ x n * P := Int.mul_le_mul_of_nonneg_right (by omega) (by omega)
        rw [Int.add_mul, Int.one_mul] at this
        unfold sgn; rw [if_neg (by omega), if_pos (by omega)]
      · have e : x n = y n := by omega
        rw [if_neg h2, ih, e, sgn_add]
/-- the longer one of two trimmed numbers is the greater -/
theorem val_longer {x y : Nat → Int} (hx : Words x) (hy : Words y) {n m : Nat} (h : n < m) (hm : sizeL y m = m) : val x n < val y m := by
  obtain ⟨k, rfl⟩ : ∃ k, m = k + 1 := ⟨m - 1, by omega⟩
  have hne : y k ≠ 0 := by
    intro e
    have : sizeL y (k + 1) = sizeL y k := by simp [sizeL, e]
    have := sizeL_le y k
    omega
  have h1 := (val_bd hx n).2
  have h2 := (val_bd hy k).1
  have h3 := pw_pos k
  have h4 := hy k
  have h5 : (18446744073709551616 : Int) ^ n ≤ 18446744073709551616 ^ k := by
    obtain ⟨q, rfl⟩ : ∃ q, k = n + q := ⟨k - n, by omega⟩
    rw [Int.pow_add]
    have := pw_pos n
    have := pw_pos q
    have : (18446744073709551616 : Int) ^ n * 1 ≤ 18446744073709551616 ^ n * 18446744073709551616 ^ q := Int.mul_le_mul_of_nonneg_left (by omega) (by omega)
    omega
  show _ < val y k + y k * 18446744073709551616 ^ k
  have : 1 * 18446744073709551616 ^ k ≤ y k * 18446744073709551616 ^ k := Int.mul_le_mul_of_nonneg_right (by omega) (by omega)
  omega

set_option maxHeartbeats 1000000 in
theorem ncmp_any (a a' : Option Addr) (n c n' c' : Nat) (x y : Nat → Int) (w : World) (hn : n < 4294967296) (hn' : n' < 4294967296) (h : Num w a n c x) (h' : Num w a' n' c' y) :
    Calls Tryd.prog 47 #[.slice a n c, .slice a' n' c'] w fun e w' => e = .returned (.int .i64 (sgn (val x n) (val y n'))) ∧ ∃ m, w.drewN m = w' := by
  have hb := bare_any a n c x w hn h
  have hb' := bare_any a' n' c' y w hn' h'
  rw [← val_bare n, ← val_bare n']
  have hx := h.2.2.1
  have hy := h'.2.2.1
  have h1 := sizeL_sizeL x n
  have h1' := sizeL_sizeL y n'
  have hle := sizeL_le x n
  have hle' := sizeL_le y n'
  have hN := h.bare
  have hN' := h'.bare
  generalize sizeL x n = s at *
  generalize sizeL y n' = s' at *
  have HV : Hid (∀ k, cmpL x y k = sgn (val x k) (val y k)) := cmpL_val hx hy
  have HL1 : Hid (s < s' → sgn (val x s) (val y s') = sgn s s') := fun hlt => by
    have := val_longer hx hy hlt h1'
    unfold sgn; rw [if_pos this, if_pos (by omega)]
  have HL2 : Hid (s' < s → sgn (val x s) (val y s') = sgn s s') := fun hlt => by
    have := val_longer hy hx hlt h1
    unfold sgn; rw [if_neg (by omega), if_pos this, if_neg (by omega), if_pos (by omega)]
  clear h h' h1 h1' hx hy
  by_cases e : s = s'
  · subst e
    have hc : ∀ i, i < s → ∃ b off, a = some ⟨b, off, none⟩ ∧ w.cell? ⟨b, off + i, none⟩ = some (.int .u64 (x i)) := by
      intro i hi
      have h5 := hN.2.2.2.2
      rcases h5 with ⟨_, h⟩ | ⟨b, off, h, _, hc⟩
      · have := hN.1; omega
      · exact ⟨b, off, h, hc i hi⟩
    have hc' : ∀ i, i < s → ∃ b off, a' = some ⟨b, off, none⟩ ∧ w.cell? ⟨b, off + i, none⟩ = some (.int .u64 (y i)) := by
      intro i hi
      have h5 := hN'.2.2.2.2
      rcases h5 with ⟨_, h⟩ | ⟨b, off, h, _, hc⟩
      · have := hN'.1; omega
      · exact ⟨b, off, h, hc i hi⟩
    clear hN hN' HL1 HL2
    go_enter Tryd.func47, Tryd.ntmps47
    go_wp2_with (first | (go_at_call_of 65 (Value.slice a n c); refine hb.mono ?_; rintro e w' ⟨rfl, rfl⟩) | (go_at_call_of 65 (Value.slice a' n' c'); refine hb'.mono ?_; rintro e w' ⟨rfl, rfl⟩))
    go_loopw [7] (fun t wr => ∃ k m : Nat, k ≤ s ∧ cmpL x y k = cmpL x y s ∧ t = .int .i64 ((k : Int) - 1) ∧ w.drewN m = wr) (fun t _ => (intOf t + 1).toNat)
    case atStart => exact ⟨s, 0, Nat.le_refl _, rfl, by go_num, rfl⟩
    case round =>
      obtain ⟨k, m, hk, hs, rfl, rfl⟩ := hrel
      by_cases h0 : k = 0
      · subst h0
        have HS : Hid (sgn (val x s) (val y s) = 0) := by show _ = _; rw [← HV.out, ← hs]; rfl
        clear hs hc hc'
        go_wp2
        go_ret
        exact ⟨ret_int HS.out.symm, _, rfl⟩
      · obtain ⟨j, rfl⟩ : ∃ j, k = j + 1 := ⟨k - 1, by omega⟩
        have ej : ((j + 1 : Nat) : Int) - 1 = j := by omega
        have hjs : (j : Int) < s := by omega
        rw [ej]
        obtain ⟨b, off, rfl, hcj⟩ := hc j (by omega)
        obtain ⟨b', off', rfl, hcj'⟩ := hc' j (by omega)
        have hs' : (if x j < y j then -1 else if y j < x j then 1 else cmpL x y j) = cmpL x y s := hs
        have hcmp := compare_u64 (x j) (y j)
        by_cases he : x j = y j
        · have HR : Hid (cmpL x y j = cmpL x y s) := by rw [← hs', if_neg (by omega), if_neg (by omega)]; rfl
          have hne : (x j != y j) = false := by simp [he]
          rw [he] at hcj
          clear hs hs' hc hc' hcmp
          go_wp2
          go_quiet (fail)
          go_wp2
          go_roundw
          case rel => exact ⟨j, m + nq, by omega, HR.out, by go_num, rfl⟩
          case measure => simp [intOf]
        · have HR : Hid (sgn (val x s) (val y s) = sgn (x j) (y j)) := by
            show _ = _
            rw [← HV.out, ← hs']
            unfold sgn
            by_cases h1 : x j < y j
            · rw [if_pos h1, if_pos h1]
            · rw [if_neg h1, if_neg h1, if_pos (by omega), if_pos (by omega)]
          have hne : (x j != y j) = true := by simp [he]
          clear hs hs' hc hc'
          go_wp2
          go_quiet (fail)
          go_wp2
          go_quiet ((go_at_call 67; exact (hcmp _).mono fun _ _ h => ⟨h.1, _, h.2.symm⟩))
          go_wp2
          go_ret
          exact ⟨ret_int HR.out.symm, drw2 _ _ _ _⟩
  · have hne : ((s : Int) != s') = true := by simp; omega
    have hcmp := compare_int s s' w
    have HR : Hid (sgn (val x s) (val y s') = sgn s s') := by
      rcases Nat.lt_or_gt_of_ne e with h | h
      · exact HL1.out h
      · exact HL2.out h
    clear HL1 HL2 hN hN'
    go_enter Tryd.func47, Tryd.ntmps47
    go_wp2_with (first | (first | (go_at_call_of 65 (Value.slice a n c); refine hb.mono ?_; rintro e w' ⟨rfl, rfl⟩) | (go_at_call_of 65 (Value.slice a' n' c'); refine hb'.mono ?_; rintro e w' ⟨rfl, rfl⟩)) | (go_at_call 66; refine hcmp.mono ?_; rintro e w' ⟨rfl, rfl⟩))
    go_ret
    exact ⟨ret_int HR.out.symm, 0, rfl⟩
end
section
/-- the words of x, to those from off on y's lowest k added -/
def addZ (x y : Nat → Int) (off k j : Nat) : Int := if off ≤ j ∧ j < off + k then sumW (fun i => x (off + i)) y (j - off) else x j
theorem addZ_next (x y : Nat → Int) (off k j : Nat) : (if j = off + k then sumW (fun i => x (off + i)) y k else addZ x y off k j) = addZ x y off (k + 1) j := by
  unfold addZ
  by_cases e : j = off + k
  · subst e
    rw [if_pos rfl, if_pos (by omega)]; congr 1; omega
  · rw [if_neg e]
    by_cases e2 : off ≤ j ∧ j < off + k
    · rw [if_pos e2, if_pos (by omega)]
    · rw [if_neg e2, if_neg (by omega)]
theorem addZ_at (x y : Nat → Int) (off k : Nat) : addZ x y off k (off + k) = x (off + k) := by unfold addZ; rw [if_neg (by omega)]

theorem Num.cells {w : World} {a : Option Addr} {n c : Nat} {x : Nat → Int} (h : Num w a n c x) (hn : 0 < n) : ∃ b off, a = some ⟨b, off, none⟩ ∧ b < w.heap.size ∧ ∀ i, i < n → w.cell? ⟨b, off + i, none⟩ = some (.int .u64 (x i)) := by
  rcases h.2.2.2.2 with ⟨_, h'⟩ | ⟨b, off, h', hb, hc⟩
  · have := h.1; omega
  · exact ⟨b, off, h', hb, hc⟩

set_option maxHeartbeats 1000000 in
theorem addInto_any (g N off m c k c' : Nat) (a' : Option Addr) (x y : Nat → Int) (w : World) (hm : off + m ≤ N) (hN : N < 4294967296) (hk : k ≤ m) (hx : Words x) (h : Own g N x w) (h' : Num w a' k c' y) (hA : Apart a' g) :
    Calls Tryd.prog 83 #[.slice (some ⟨g, off, none⟩) m c, .slice a' k c'] w fun e w' => e = .returned (.int .u64 (carryW (fun i => x (off + i)) y k)) ∧ Own g N (addZ x y off k) w' ∧ Upd g w w' := by
  have hy := h'.2.2.1
  have hX : Words (fun i => x (off + i)) := fun i => hx (off + i)
  have HX : Hid (Words (fun i => x (off + i))) := hX
  go_enter Tryd.func83, Tryd.ntmps83
  go_wp2
  go_loopw [5, 6, 7, 10, 15] (fun cv u6 u7 i u15 wr => ∃ (j : Nat), j ≤ k ∧ i = .int .i64 j ∧ cv = .int .u64 (carryW (fun i => x (off + i)) y j) ∧ Own g N (addZ x y off j) wr ∧ Upd g w wr) (fun _ _ _ i _ _ => k - (intOf i).toNat)
  case atStart => exact ⟨0, Nat.zero_le _, rfl, rfl, h.congr fun i _ => by unfold addZ; rw [if_neg (by omega)], Upd.refl _ _⟩
  case round =>
    obtain ⟨j, hj, rfl, rfl, hO, hU⟩ := hrel
    have hcar := carryW_01 HX.out hy j
    by_cases hlt : j < k
    · have hji : (j : Int) < k := by omega
      have hjm : (j : Int) < m := by omega
      obtain ⟨b, off', rfl, hb, hc⟩ := (hU.num' hA h').cells (by omega)
      have hcj := hc j hlt
      have hco := hO.cell (off + j) (by omega)
      rw [addZ_at] at hco
      have hfo := hO.frozen (off + j)
      have bx := hx (off + j)
      have b_y := hy j
      have hadd := fun w => add64 (x (off + j)) (y j) (carryW (fun i => x (off + i)) y j) bx.1 b_y.1 hcar.1 hcar.2 w
      have HO : Hid (Own g N (addZ x y off (j + 1)) (wr.setCell ⟨g, off + j, none⟩ (.int .u64 (sumW (fun i => x (off + i)) y j)))) := (hO.set (off + j) _).congr fun i _ => addZ_next x y off j i
      have HU : Hid (Upd g w (wr.setCell ⟨g, off + j, none⟩ (.int .u64 (sumW (fun i => x (off + i)) y j)))) := hU.set (off + j) _
      clear hO hU hc h h' hA hx hy hX
      go_wp2
      go_roundw
      case rel => exact ⟨j + 1, by omega, by go_num, rfl, HO.out, HU.out⟩
      case measure => simp [intOf]; omega
    · obtain rfl : j = k := by omega
      have HO : Hid (Own g N (addZ x y off j) wr) := hO
      have HU : Hid (Upd g w wr) := hU
      clear hO hU h h' hA hx hy hX
      go_wp2
      go_ret
      exact ⟨rfl, HO.out, HU.out⟩

theorem carryW_stop {x y : Nat → Int} (hx : Words x) {k : Nat} (zy : ∀ i, k ≤ i → y i = 0) {i : Nat} (hi : k ≤ i) (h0 : carryW x y i = 0) : ∀ j, i ≤ j → carryW x y j = 0 ∧ sumW x y j = x j := by
  have h1 : ∀ j, i ≤ j → carryW x y j = 0 := by
    intro j hj
    induction j with
    | zero => obtain rfl : i = 0 := by omega
              exact h0
    | succ j ih =>
      by_cases e : i = j + 1
      · rw [← e]; exact h0
      · have hb := hx j
        simp only [carryW]; rw [ih (by omega), zy j (by omega)]; omega
  intro j hj
  refine ⟨h1 j hj, ?_⟩
  have hb := hx j
  unfold sumW
  rw [h1 j hj, zy j (by omega)]; omega

set_option maxHeartbeats 1000000 in
theorem carryInto_any (g N k c : Nat) (x y : Nat → Int) (w : World) (hk : k ≤ N) (hN : N < 4294967296) (hx : Words x) (hy : Words y) (zy : ∀ i, k ≤ i → y i = 0) (hend : carryW x y N = 0) (h : Own g N (addZ x y 0 k) w) :
    Calls Tryd.prog 82 #[.slice (some ⟨g, k, none⟩) (N - k) c, .int .u64 (carryW x y k)] w fun e w' => e = .returned (.tuple #[]) ∧ Own g N (sumW x y) w' ∧ Upd g w w' := by
  have e0 : (fun i => x (0 + i)) = x := by funext i; rw [Nat.zero_add]
  go_enter Tryd.func82, Tryd.ntmps82
  go_wp2
  go_loopw [1, 4, 9] (fun cv i u9 wr => ∃ (j : Nat), k + j ≤ N ∧ i = .int .i64 j ∧ cv = .int .u64 (carryW x y (k + j)) ∧ Own g N (addZ x y 0 (k + j)) wr ∧ Upd g w wr) (fun _ i _ _ => N - (intOf i).toNat)
  case atStart => exact ⟨0, by omega, rfl, rfl, h, Upd.refl _ _⟩
  case round =>
    obtain ⟨j, hj, rfl, rfl, hO, hU⟩ := hrel
    have hcar := carryW_01 hx hy (k + j)
    by_cases hc0 : carryW x y (k + j) = 0
    · have HO : Hid (Own g N (sumW x y) wr) := hO.congr fun i hi => by
        unfold addZ
        by_cases e : 0 ≤ i ∧ i < 0 + (k + j)
        · rw [if_pos e, e0]; rfl
        · rw [if_neg e]; exact ((carryW_stop hx zy (by omega) hc0 i (by omega)).2).symm
      have HU : Hid (Upd g w wr) := hU
      rw [hc0]
      clear hO hU h hend hcar e0
      go_wp2
      go_end0
      exact ⟨rfl, HO.out, HU.out⟩
    · have hlt : k + j < N := by
        rcases Nat.lt_or_ge (k + j) N with h' | h'
        · exact h'
        · obtain e : k + j = N := by omega
          rw [e] at hc0; exact absurd hend hc0
      have hpos : 0 < carryW x y (k + j) := by omega
      have hji : (j : Int) < ((N - k : Nat) : Int) := by omega
      have hco := hO.cell (k + j) hlt
      have e1 : addZ x y 0 (k + j) (k + j) = x (k + j) := by have := addZ_at x y 0 (k + j); simpa using this
      rw [e1] at hco
      have hfo := hO.frozen (k + j)
      have bx := hx (k + j)
      have hs : sumW x y (k + j) = (x (k + j) + carryW x y (k + j)) % 18446744073709551616 := by unfold sumW; rw [zy _ (by omega), Int.add_zero]
      have hcn : carryW x y (k + (j + 1)) = (x (k + j) + carryW x y (k + j)) / 18446744073709551616 := by
        show (x (k + j) + y (k + j) + carryW x y (k + j)) / 18446744073709551616 = _
        rw [zy _ (by omega), Int.add_zero]
      have hadd := fun w => add64 (x (k + j)) 0 (carryW x y (k + j)) bx.1 (by decide) hcar.1 hcar.2 w
      have HO : Hid (Own g N (addZ x y 0 (k + (j + 1))) (wr.setCell ⟨g, k + j, none⟩ (.int .u64 (sumW x y (k + j))))) := (hO.set (k + j) _).congr fun i _ => by
        have := addZ_next x y 0 (k + j) i
        rw [e0, Nat.zero_add] at this
        exact this
      have HU : Hid (Upd g w (wr.setCell ⟨g, k + j, none⟩ (.int .u64 (sumW x y (k + j))))) := hU.set (k + j) _
      have HC : Hid (carryW x y (k + (j + 1)) = (x (k + j) + carryW x y (k + j)) / 18446744073709551616) := hcn
      rw [hs] at HO HU
      clear hO hU h hend hx hy zy hc0 e1 hs hcn e0
      go_wp2
      go_roundw
      case rel => exact ⟨j + 1, by omega, by go_num, by rw [HC.out], HO.out, HU.out⟩
      case measure => simp [intOf]; omega

theorem sum_end {x y : Nat → Int} {s s' N : Nat} (hx : Words x) (hy : Words y) (zx : ∀ i, s ≤ i → x i = 0) (zy : ∀ i, s' ≤ i → y i = 0) (h : s < N) (h' : s' < N) : carryW x y N = 0 := by
  obtain ⟨q, rfl⟩ : ∃ q, N = q + 1 := ⟨N - 1, by omega⟩
  have := carryW_01 hx hy q
  simp only [carryW]; rw [zx q (by omega), zy q (by omega)]; omega
/-- what is left behind the work: the sum, trimmed -/
theorem sum_num {x y : Nat → Int} {g N s s' : Nat} {w : World} (hx : Words x) (hy : Words y) (zx : ∀ i, s ≤ i → x i = 0) (zy : ∀ i, s' ≤ i → y i = 0) (h : s < N) (h' : s' < N) (hN : N < 4294967296) (hO : Own g N (sumW x y) w) :
    Num w (some ⟨g, 0, none⟩) N N (segW (sumW x y) 0 N) ∧ val (segW (sumW x y) 0 N) N = val x s + val y s' := by
  refine ⟨hO.num (sumW_words x y) 0 N N (by omega) (Nat.le_refl _) (by unfold maxLen; omega), ?_⟩
  rw [val_congr (x := segW (sumW x y) 0 N) (y := sumW x y) N fun i hi => by rw [segW_lt _ 0 N i hi, Nat.zero_add]]
  have e := sum_val (x := x) (y := y) N
  rw [sum_end hx hy zx zy h h', val_more zx N (by omega), val_more zy N (by omega)] at e
  omega

set_option maxHeartbeats 1000000 in
theorem nadd_any (a a' : Option Addr) (n c n' c' : Nat) (x y : Nat → Int) (w : World) (hn : n < 4000000000) (hn' : n' < 4000000000) (h : Num w a n c x) (h' : Num w a' n' c' y) :
    Calls Tryd.prog 70 #[.slice a n c, .slice a' n' c'] w fun e w' => ∃ g k cap z, e = .returned (.slice (some ⟨g, 0, none⟩) k cap) ∧ k ≤ max (sizeL x n) (sizeL y n') + 1 ∧ Num w' (some ⟨g, 0, none⟩) k cap z ∧ val z k = val x n + val y n' ∧ sizeL z k = k ∧ Below w.heap.size w w' := by
  have hb := bare_any a n c x w (by omega) h
  have hb' := bare_any a' n' c' y w (by omega) h'
  rw [← val_bare n, ← val_bare n']
  have hx := h.2.2.1
  have hy := h'.2.2.1
  have hle := sizeL_le x n
  have hle' := sizeL_le y n'
  have hN := h.bare
  have hN' := h'.bare
  generalize sizeL x n = s at *
  generalize sizeL y n' = s' at *
  clear h h'
  by_cases hlt : s < s'
  · have hlt' : (s : Int) < s' := by omega
    obtain ⟨N, hNs⟩ : ∃ N, s' + 1 = N := ⟨_, rfl⟩
    have hNi : (s' : Int) + 1 = N := by omega
    have hmk := fun w => make_any ((s' : Int) + 1) N hNi (by omega) w
    have hcp := fun ty => copy_num (N := N) (C := N) ty hN' (by omega)
    have hO := Own.new w y N
    have hA : Apart a w.heap.size := by
      intro p hp
      rcases hN.2.2.2.2 with ⟨h, _⟩ | ⟨b, off, h, hb, _⟩
      · rw [h] at hp; cases hp
      · rw [h] at hp; cases hp; exact Nat.ne_of_lt hb
    have hnS := hN.next (below1 w (.cells (arrOf y N) 22))
    have hai := fun wr hO hn => addInto_any w.heap.size N 0 N N s c a y x wr (by omega) (by omega) (by omega) hy hO hn hA
    rw [show (fun i => y (0 + i)) = y by funext i; rw [Nat.zero_add]] at hai
    have hci := fun wr hO => carryInto_any w.heap.size N s (N - s) y x wr (by omega) (by omega) hy hx hN.2.2.2.1 (sum_end hy hx hN'.2.2.2.1 hN.2.2.2.1 (by omega) (by omega)) hO
    have HSN : Hid (∀ w2, Own w.heap.size N (sumW y x) w2 → Num w2 (some ⟨w.heap.size, 0, none⟩) N N (segW (sumW y x) 0 N) ∧ val (segW (sumW y x) 0 N) N = val y s' + val x s) := fun w2 h2 => sum_num hy hx hN'.2.2.2.1 hN.2.2.2.1 (by omega) (by omega) (by omega) h2
    have HBW : Hid (Below w.heap.size w (w.alloc (.cells (arrOf y N) 22))) := below1 w _
    have hsN : (s : Int) ≤ N := by omega
    clear hN hN' hNi hA hx hy
    go_enter Tryd.func70, Tryd.ntmps70
    go_wp2_with (first | (go_at_call_of 65 (Value.slice a n c); refine hb.mono ?_; rintro e w' ⟨rfl, rfl⟩) | (go_at_call_of 65 (Value.slice a' n' c'); refine hb'.mono ?_; rintro e w' ⟨rfl, rfl⟩))
    generalize w.alloc (.cells (arrOf y N) 22) = wA at *
    go_region_with (first | (go_at_call 83; refine (hai wA.drew hO hnS).mono ?_; rintro e w1 ⟨rfl, hO1, hU1⟩) | (go_at_call 82; refine (hci _ hO1).mono ?_; rintro e w2 ⟨rfl, hO2, hU2⟩))
    have hsn := HSN.out w2 hO2
    have hbr := bare_any (some ⟨w.heap.size, 0, none⟩) N N (segW (sumW y x) 0 N) w2 (by omega) hsn.1
    have HN2 : Hid (Num w2 (some ⟨w.heap.size, 0, none⟩) (sizeL (segW (sumW y x) 0 N) N) N (segW (sumW y x) 0 N)) := hsn.1.bare
    have HV2 : Hid (val (segW (sumW y x) 0 N) (sizeL (segW (sumW y x) 0 N) N) = val y s' + val x s) := by show _ = _; rw [val_bare, hsn.2]
    have HS2 : Hid (sizeL (segW (sumW y x) 0 N) (sizeL (segW (sumW y x) 0 N) N) = sizeL (segW (sumW y x) 0 N) N) := sizeL_sizeL _ _
    have HLE : Hid (sizeL (segW (sumW y x) 0 N) N ≤ N) := sizeL_le _ _
    generalize segW (sumW y x) 0 N = z at *
    generalize sizeL z N = k at *
    have HB2 : Hid (Below w.heap.size w w2) := (HBW.out.drew.trans (hU1.below (Nat.le_refl _))).trans (hU2.below (Nat.le_refl _))
    clear hsn hO1 hO2 hU1 hU2 hO hnS hai hci hb hb'
    go_wp2_with (go_at_call 65; refine hbr.mono ?_; rintro e w3 ⟨rfl, rfl⟩)
    go_ret
    exact ⟨_, k, N, z, rfl, by have := HLE.out; omega, HN2.out, by rw [HV2.out]; omega, HS2.out, HB2.out⟩
  · have hlt' : ¬ (s : Int) < s' := by omega
    obtain ⟨N, hNs⟩ : ∃ N, s + 1 = N := ⟨_, rfl⟩
    have hNi : (s : Int) + 1 = N := by omega
    have hmk := fun w => make_any ((s : Int) + 1) N hNi (by omega) w
    have hcp := fun ty => copy_num (N := N) (C := N) ty hN (by omega)
    have hO := Own.new w x N
    have hA : Apart a' w.heap.size := by
      intro p hp
      rcases hN'.2.2.2.2 with ⟨h, _⟩ | ⟨b, off, h, hb, _⟩
      · rw [h] at hp; cases hp
      · rw [h] at hp; cases hp; exact Nat.ne_of_lt hb
    have hnS := hN'.next (below1 w (.cells (arrOf x N) 22))
    have hai := fun wr hO hn => addInto_any w.heap.size N 0 N N s' c' a' x y wr (by omega) (by omega) (by omega) hx hO hn hA
    rw [show (fun i => x (0 + i)) = x by funext i; rw [Nat.zero_add]] at hai
    have hci := fun wr hO => carryInto_any w.heap.size N s' (N - s') x y wr (by omega) (by omega) hx hy hN'.2.2.2.1 (sum_end hx hy hN.2.2.2.1 hN'.2.2.2.1 (by omega) (by omega)) hO
    have HSN : Hid (∀ w2, Own w.heap.size N (sumW x y) w2 → Num w2 (some ⟨w.heap.size, 0, none⟩) N N (segW (sumW x y) 0 N) ∧ val (segW (sumW x y) 0 N) N = val x s + val y s') := fun w2 h2 => sum_num hx hy hN.2.2.2.1 hN'.2.2.2.1 (by omega) (by omega) (by omega) h2
    have HBW : Hid (Below w.heap.size w (w.alloc (.cells (arrOf x N) 22))) := below1 w _
    have hsN : (s' : Int) ≤ N := by omega
    clear hN hN' hNi hA hx hy
    go_enter Tryd.func70, Tryd.ntmps70
    go_wp2_with (first | (go_at_call_of 65 (Value.slice a n c); refine hb.mono ?_; rintro e w' ⟨rfl, rfl⟩) | (go_at_call_of 65 (Value.slice a' n' c'); refine hb'.mono ?_; rintro e w' ⟨rfl, rfl⟩))
    generalize w.alloc (.cells (arrOf x N) 22) = wA at *
    go_region_with (first | (go_at_call 83; refine (hai wA.drew hO hnS).mono ?_; rintro e w1 ⟨rfl, hO1, hU1⟩) | (go_at_call 82; refine (hci _ hO1).mono ?_; rintro e w2 ⟨rfl, hO2, hU2⟩))
    have hsn := HSN.out w2 hO2
    have hbr := bare_any (some ⟨w.heap.size, 0, none⟩) N N (segW (sumW x y) 0 N) w2 (by omega) hsn.1
    have HN2 : Hid (Num w2 (some ⟨w.heap.size, 0, none⟩) (sizeL (segW (sumW x y) 0 N) N) N (segW (sumW x y) 0 N)) := hsn.1.bare
    have HV2 : Hid (val (segW (sumW x y) 0 N) (sizeL (segW (sumW x y) 0 N) N) = val x s + val y s') := by show _ = _; rw [val_bare, hsn.2]
    have HS2 : Hid (sizeL (segW (sumW x y) 0 N) (sizeL (segW (sumW x y) 0 N) N) = sizeL (segW (sumW x y) 0 N) N) := sizeL_sizeL _ _
    have HLE : Hid (sizeL (segW (sumW x y) 0 N) N ≤ N) := sizeL_le _ _
    generalize segW (sumW x y) 0 N = z at *
    generalize sizeL z N = k at *
    have HB2 : Hid (Below w.heap.size w w2) := (HBW.out.drew.trans (hU1.below (Nat.le_refl _))).trans (hU2.below (Nat.le_refl _))
    clear hsn hO1 hO2 hU1 hU2 hO hnS hai hci hb hb'
    go_wp2_with (go_at_call 65; refine hbr.mono ?_; rintro e w3 ⟨rfl, rfl⟩)
    go_ret
    exact ⟨_, k, N, z, rfl, by have := HLE.out; omega, HN2.out, by rw [HV2.out], HS2.out, HB2.out⟩
end
end Go.Proofs.YtiojbgdfmabjdaaDoor
