/-
  Texts that the proof leans on.
-/
import Derived.Test.YtpemdcnneabbfaaGreatDoorJ16
set_option linter.unusedVariables false
set_option linter.unusedSimpArgs false
set_option linter.unusedSectionVars false
set_option maxRecDepth 20000
namespace Go.Proofs.YtpemdcnneabbfaaGreatDoor
open Go.RowKit
/-- block g is N words, those of x, none of them frozen -/
def Own (g N : Nat) (x : Nat → Int) (w : World) : Prop := w.heap[g]? = some (.cells (arrOf x N) 23)
/-- all but block g is as it was (the count of draws aside) -/
structure Upd (g : Nat) (w w' : World) : Prop where
  os : w'.os = w.os
  tape : w'.tape = w.tape
  output : w'.output = w.output
  size : w'.heap.size = w.heap.size
  block : ∀ k, k ≠ g → w'.heap[k]? = w.heap[k]?
theorem Upd.refl (g : Nat) (w : World) : Upd g w w := ⟨rfl, rfl, rfl, rfl, fun _ _ => rfl⟩
theorem Upd.trans {g : Nat} {a b c : World} (h : Upd g a b) (k : Upd g b c) : Upd g a c :=
  ⟨k.os.trans h.os, k.tape.trans h.tape, k.output.trans h.output, k.size.trans h.size, fun i hi => (k.block i hi).trans (h.block i hi)⟩
theorem Upd.drewN {g : Nat} {a b : World} (h : Upd g a b) (m : Nat) : Upd g a (b.drewN m) := ⟨h.os, h.tape, h.output, h.size, h.block⟩
theorem Upd.drew {g : Nat} {a b : World} (h : Upd g a b) : Upd g a b.drew := ⟨h.os, h.tape, h.output, h.size, h.block⟩
theorem Upd.set {g : Nat} {a b : World} (h : Upd g a b) (i : Nat) (v : Value) : Upd g a (b.setCell ⟨g, i, none⟩ v) :=
  h.trans ⟨rfl, rfl, rfl, by simp [World.setCell], fun k hk => Below.heap_setCell _ _ _ _ hk⟩
theorem Upd.below {g B : Nat} {w w' : World} (h : Upd g w w') (hB : B ≤ g) : Below B w w' := ⟨h.os, h.tape, h.output, Nat.le_of_eq h.size.symm, fun k hk => h.block k (by omega)⟩
theorem Upd.num {g : Nat} {w w' : World} {b off n c : Nat} {x : Nat → Int} (h : Upd g w w') (hb : b ≠ g) (hN : Num w (some ⟨b, off, none⟩) n c x) : Num w' (some ⟨b, off, none⟩) n c x := by
  obtain ⟨h1, h2, h3, h4, h5⟩ := hN
  refine ⟨h1, h2, h3, h4, ?_⟩
  rcases h5 with ⟨h5, _⟩ | ⟨b', off', h6, h7, h8⟩
  · cases h5
  · cases h6
    exact Or.inr ⟨b, off, rfl, by rw [h.size]; exact h7, fun i hi => (World.cell?_of_block (w := w) (a := ⟨b, off + i, none⟩) (h.block b hb)).trans (h8 i hi)⟩
/-- a number that lies elsewhere stays -/
def Apart (a : Option Addr) (g : Nat) : Prop := ∀ p, a = some p → p.block ≠ g
theorem Upd.num' {g : Nat} {w w' : World} {a : Option Addr} {n c : Nat} {x : Nat → Int} (h : Upd g w w') (hb : Apart a g) (hN : Num w a n c x) : Num w' a n c x := by
  have hN' := hN
  obtain ⟨h1, h2, h3, h4, h5⟩ := hN'
  rcases h5 with ⟨rfl, rfl⟩ | ⟨b', off', rfl, h7, h8⟩
  · exact ⟨h1, h2, h3, h4, Or.inl ⟨rfl, rfl⟩⟩
  · exact h.num (hb _ rfl) hN
theorem Upd.own {g g' N : Nat} {w w' : World} {x : Nat → Int} (h : Upd g w w') (hb : g' ≠ g) (hN : Own g' N x w) : Own g' N x w' := (h.block g' hb).trans hN
theorem Below.own {B g N : Nat} {w w' : World} {x : Nat → Int} (h : Below B w w') (hb : g < B) (hN : Own g N x w) : Own g N x w' := (h.block g hb).trans hN

theorem Own.lt {g N : Nat} {x : Nat → Int} {w : World} (h : Own g N x w) : g < w.heap.size := by
  rcases Nat.lt_or_ge g w.heap.size with h' | h'
  · exact h'
  · unfold Own at h; rw [Array.getElem?_eq_none h'] at h; cases h
theorem Own.cell {g N : Nat} {x : Nat → Int} {w : World} (h : Own g N x w) (i : Nat) (hi : i < N) : w.cell? ⟨g, i, none⟩ = some (.int .u64 (x i)) := by
  unfold World.cell?
  have hh : w.heap[g]? = some (.cells (arrOf x N) 23) := h
  simp [hh, arrOf_get? x N i hi]
theorem Own.frozen {g N : Nat} {x : Nat → Int} {w : World} (h : Own g N x w) (i : Nat) : w.frozen? ⟨g, i, none⟩ = false := by
  unfold World.frozen?
  have hh : w.heap[g]? = some (.cells (arrOf x N) 23) := h
  simp [hh]
theorem Own.set {g N : Nat} {x : Nat → Int} {w : World} (h : Own g N x w) (i : Nat) (v : Int) : Own g N (fun j => if j = i then v else x j) (w.setCell ⟨g, i, none⟩ (.int .u64 v)) := by
  have hh : w.heap[g]? = some (.cells (arrOf x N) 23) := h
  show (w.setCell ⟨g, i, none⟩ (.int .u64 v)).heap[g]? = _
  simp only [World.setCell, Array.getElem?_modify, if_true, hh]
  simp [arrOf_set]
theorem Own.congr {g N : Nat} {x y : Nat → Int} {w : World} (h : Own g N x w) (e : ∀ i, i < N → x i = y i) : Own g N y w := by
  unfold Own; rw [← arrOf_congr e]; exact h
theorem Own.new (w : World) (x : Nat → Int) (N : Nat) : Own w.heap.size N x (w.alloc (.cells (arrOf x N) 23)) := (MapKept.heap_alloc w _).1
/-- words off to off + m of the block, as a number -/
def segW (x : Nat → Int) (off m i : Nat) : Int := if i < m then x (off + i) else 0
theorem segW_words {x : Nat → Int} (hx : Words x) (off m : Nat) : Words (segW x off m) := fun i => by unfold segW; split; exact hx _; decide
theorem segW_zero (x : Nat → Int) (off m i : Nat) (h : m ≤ i) : segW x off m i = 0 := by unfold segW; rw [if_neg (by omega)]
theorem segW_lt (x : Nat → Int) (off m i : Nat) (h : i < m) : segW x off m i = x (off + i) := by unfold segW; rw [if_pos h]
theorem Own.num {g N : Nat} {x : Nat → Int} {w : World} (h : Own g N x w) (hx : Words x) (off m c : Nat) (hm : off + m ≤ N) (hc : m ≤ c) (hc2 : c ≤ maxLen) : Num w (some ⟨g, off, none⟩) m c (segW x off m) :=
  ⟨hc, hc2, segW_words hx off m, fun i hi => segW_zero x off m i hi, Or.inr ⟨g, off, rfl, h.lt, fun i hi => by rw [h.cell (off + i) (by omega), segW_lt x off m i hi]⟩⟩
section
/-- the quotient's words from word k on, the number's own below it -/
def divZ (x : Nat → Int) (d : Int) (m k i : Nat) : Int := if k ≤ i ∧ i < m then quoW x d m i else x i

set_option maxHeartbeats 1000000 in
theorem divideBy_any (g N m c : Nat) (x : Nat → Int) (d : Int) (w : World) (hm : m ≤ N) (hm2 : m < 4294967296) (hx : Words x) (hd : 0 < d ∧ d ≤ 18446744073709551615) (h : Own g N x w) :
    Calls Tryz.prog 132 #[.slice (some ⟨g, 0, none⟩) m c, .int .u64 d] w fun e w' => e = .returned (.int .u64 (remJ x d m m)) ∧ Own g N (divZ x d m 0) w' ∧ Upd g w w' := by
  have H := fun j hj w => limDiv_ok x d m hx hd j hj w
  have hd0 : (d == 0) = false := by simp; omega
  go_enter Tryz.func132, Tryz.ntmps132
  go_wp2
  go_loopw [5, 6, 14] (fun c i u14 wr => ∃ (k : Nat), k ≤ m ∧ i = .int .i64 ((k : Int) - 1) ∧ c = .int .u64 (remJ x d m (m - k)) ∧ Own g N (divZ x d m k) wr ∧ Upd g w wr) (fun _ i _ _ => (intOf i + 1).toNat)
  case atStart => exact ⟨m, Nat.le_refl _, rfl, by rw [Nat.sub_self]; rfl, h.congr fun i _ => by unfold divZ; rw [if_neg (by omega)], Upd.refl _ _⟩
  case round =>
    obtain ⟨k, hk, rfl, rfl, hO, hU⟩ := hrel
    by_cases h0 : k = 0
    · subst h0
      have HO : Hid (Own g N (divZ x d m 0) wr) := hO
      have HU : Hid (Upd g w wr) := hU
      clear hO hU H
      go_wp2
      go_ret
      exact ⟨rfl, HO.out, HU.out⟩
    · obtain ⟨j, rfl⟩ : ∃ j, k = j + 1 := ⟨k - 1, by omega⟩
      have hjm : (j : Int) < m := by omega
      have ej : ((j + 1 : Nat) : Int) - 1 = j := by omega
      have ej2 : m - (j + 1) = m - 1 - j := by omega
      rw [ej, ej2]
      have hcj := hO.cell j (by omega)
      have hzj : divZ x d m (j + 1) j = x j := by unfold divZ; rw [if_neg (by omega)]
      rw [hzj] at hcj
      have hfj := hO.frozen j
      have HJ := H j (by omega)
      have HO : Hid (Own g N (divZ x d m j) (wr.setCell ⟨g, j, none⟩ (.int .u64 (quoW x d m j)))) := (hO.set j (quoW x d m j)).congr fun i hi => by
        unfold divZ
        by_cases e : i = j
        · subst e; rw [if_pos rfl, if_pos (by omega)]
        · rw [if_neg e]
          by_cases e2 : j + 1 ≤ i ∧ i < m
          · rw [if_pos e2, if_pos (by omega)]
          · rw [if_neg e2, if_neg (by omega)]
      have HU : Hid (Upd g w (wr.setCell ⟨g, j, none⟩ (.int .u64 (quoW x d m j)))) := hU.set j _
      clear hO hU H ej ej2 hzj
      go_wp2_with (go_at_call 38; refine (HJ _).mono ?_; rintro e w' ⟨rfl, m', rfl⟩)
      go_roundw
      case rel => exact ⟨j, by omega, by go_num, rfl, HO.out, HU.out.drewN m'⟩
      case measure => simp [intOf]
end
section
theorem sizeL_congr {x y : Nat → Int} : ∀ n, (∀ i, i < n → x i = y i) → sizeL x n = sizeL y n
  | 0, _ => rfl
  | n + 1, h => by simp only [sizeL]; rw [h n (by omega), sizeL_congr n fun i hi => h i (by omega)]
theorem val_bare {x : Nat → Int} (m : Nat) : val x (sizeL x m) = val x m := by
  have h1 := val_more (sizeL_zero m fun i hi => segW_zero x 0 m i hi) m (sizeL_le _ m)
  have h2 : sizeL (segW x 0 m) m = sizeL x m := sizeL_congr m fun i hi => by rw [segW_lt x 0 m i hi, Nat.zero_add]
  rw [h2] at h1
  have hle := sizeL_le x m
  rw [val_congr (x := segW x 0 m) (y := x) m fun i hi => by rw [segW_lt x 0 m i hi, Nat.zero_add], val_congr (x := segW x 0 m) (y := x) (sizeL x m) fun i hi => by rw [segW_lt x 0 m i (by omega), Nat.zero_add]] at h1
  exact h1.symm

/-- -1, 0, 1 -/
def sgn (a b : Int) : Int := if a < b then -1 else if b < a then 1 else 0
theorem sgn_add (a b t : Int) : sgn (a + t) (b + t) = sgn a b := by
  unfold sgn
  by_cases h : a < b
  · rw [if_pos h, if_pos (by omega)]
  · rw [if_neg h, if_neg (by omega)]
    by_cases h' : b < a
    · rw [if_pos h', if_pos (by omega)]
    · rw [if_neg h', if_neg (by omega)]
theorem drw2 (w : World) (m a b : Nat) : ∃ k, w.drewN k = ((w.drewN m).drewN a).drewN b := ⟨m + a + b, by simp [World.drewN, Nat.add_assoc]⟩
theorem compare_u64 (a b : Int) (w : World) : Calls Tryz.prog 130 #[.int .u64 a, .int .u64 b] w fun e w' => e = .returned (.int .i64 (sgn a b)) ∧ w = w' := by
  have hN : ∀ (a : Int), Calls Tryz.prog 148 #[.int .u64 a] w fun e w' => e = .returned (.bool false) ∧ w = w' := by
    intro a
    go_enter Tryz.func148, Tryz.ntmps148
    go_wp2
    go_ret
    exact ⟨rfl, rfl⟩
  have ha := hN a
  have hb := hN b
  clear hN
  by_cases h1 : a < b
  · have HS : Hid (sgn a b = -1) := by show _ = _; unfold sgn; rw [if_pos h1]
    go_enter Tryz.func130, Tryz.ntmps130
    go_wp2_with (go_at_call 148; first | (refine ha.mono ?_; rintro e w' ⟨rfl, rfl⟩) | (refine hb.mono ?_; rintro e w' ⟨rfl, rfl⟩))
    go_ret
    exact ⟨ret_int HS.out.symm, rfl⟩
  · by_cases h2 : b < a
    · have HS : Hid (sgn a b = 1) := by show _ = _; unfold sgn; rw [if_neg h1, if_pos h2]
      go_enter Tryz.func130, Tryz.ntmps130
      go_wp2_with (go_at_call 148; first | (refine ha.mono ?_; rintro e w' ⟨rfl, rfl⟩) | (refine hb.mono ?_; rintro e w' ⟨rfl, rfl⟩))
      go_ret
      exact ⟨ret_int HS.out.symm, rfl⟩
    · have HS : Hid (sgn a b = 0) := by show _ = _; unfold sgn; rw [if_neg h1, if_neg h2]
      go_enter Tryz.func130, Tryz.ntmps130
      go_wp2_with (go_at_call 148; first | (refine ha.mono ?_; rintro e w' ⟨rfl, rfl⟩) | (refine hb.mono ?_; rintro e w' ⟨rfl, rfl⟩))
      go_ret
      exact ⟨ret_int HS.out.symm, rfl⟩
theorem compare_int (a b : Int) (w : World) : Calls Tryz.prog 129 #[.int .i64 a, .int .i64 b] w fun e w' => e = .returned (.int .i64 (sgn a b)) ∧ w = w' := by
  have hN : ∀ (a : Int), Calls Tryz.prog 147 #[.int .i64 a] w fun e w' => e = .returned (.bool false) ∧ w = w' := by
    intro a
    go_enter Tryz.func147, Tryz.ntmps147
    go_wp2
    go_ret
    exact ⟨rfl, rfl⟩
  have ha := hN a
  have hb := hN b
  clear hN
  by_cases h1 : a < b
  · have HS : Hid (sgn a b = -1) := by show _ = _; unfold sgn; rw [if_pos h1]
    go_enter Tryz.func129, Tryz.ntmps129
    go_wp2_with (go_at_call 147; first | (refine ha.mono ?_; rintro e w' ⟨rfl, rfl⟩) | (refine hb.mono ?_; rintro e w' ⟨rfl, rfl⟩))
    go_ret
    exact ⟨ret_int HS.out.symm, rfl⟩
  · by_cases h2 : b < a
    · have HS : Hid (sgn a b = 1) := by show _ = _; unfold sgn; rw [if_neg h1, if_pos h2]
      go_enter Tryz.func129, Tryz.ntmps129
      go_wp2_with (go_at_call 147; first | (refine ha.mono ?_; rintro e w' ⟨rfl, rfl⟩) | (refine hb.mono ?_; rintro e w' ⟨rfl, rfl⟩))
      go_ret
      exact ⟨ret_int HS.out.symm, rfl⟩
    · have HS : Hid (sgn a b = 0) := by show _ = _; unfold sgn; rw [if_neg h1, if_neg h2]
      go_enter Tryz.func129, Tryz.ntmps129
      go_wp2_with (go_at_call 147; first | (refine ha.mono ?_; rintro e w' ⟨rfl, rfl⟩) | (refine hb.mono ?_; rintro e w' ⟨rfl, rfl⟩))
      go_ret
      exact ⟨ret_int HS.out.symm, rfl⟩

/-- comparing words from the highest on is comparing values -/
theorem cmpL_val {x y : Nat → Int} (hx : Words x) (hy : Words y) : ∀ n, cmpL x y n = sgn (val x n) (val y n)
  | 0 => by simp [cmpL, sgn, val]
  | n + 1 => by
    have hxb := val_bd hx n
    have hyb := val_bd hy n
    have ih := cmpL_val hx hy n
    have hp := pw_pos n
    have e1 : val x (n + 1) = val x n + x n * 18446744073709551616 ^ n := rfl
    have e2 : val y (n + 1) = val y n + y n * 18446744073709551616 ^ n := rfl
    rw [e1, e2]
    simp only [cmpL]
    generalize (18446744073709551616 : Int) ^ n = P at *
    by_cases h1 : x n < y n
    · rw [if_pos h1]
      have : (x n + 1) * P ≤ y n * P := Int.mul_le_mul_of_nonneg_right (by omega) (by omega)
      rw [Int.add_mul, Int.one_mul] at this
      unfold sgn; rw [if_pos (by omega)]
    · rw [if_neg h1]
      by_cases h2 : y n < x n
      · rw [if_pos h2]
        have : (y n + 1) * P ≤ x n * P := Int.mul_le_mul_of_nonneg_right (by omega) (by omega)
        rw [Int.add_mul, Int.one_mul] at this
        unfold sgn; rw [if_neg (by omega), if_pos (by omega)]
      · have e : x n = y n := by omega
        rw [if_neg h2, ih, e, sgn_add]
/-- the longer one of two trimmed numbers is the greater -/
theorem val_longer {x y : Nat → Int} (hx : Words x) (hy : Words y) {n m : Nat} (h : n < m) (hm : sizeL y m = m) : val x n < val y m := by
  obtain ⟨k, rfl⟩ : ∃ k, m = k + 1 := ⟨m - 1, by omega⟩
  have hne : y k ≠ 0 := by
    intro e
    have : sizeL y (k + 1) = sizeL y k := by simp [sizeL, e]
    have := sizeL_le y k
    omega
  have h1 := (val_bd hx n).2
  have h2 := (val_bd hy k).1
  have h3 := pw_pos k
  have h4 := hy k
  have h5 : (18446744073709551616 : Int) ^ n ≤ 18446744073709551616 ^ k := by
    obtain ⟨q, rfl⟩ : ∃ q, k = n + q := ⟨k - n, by omega⟩
    rw [Int.pow_add]
    have := pw_pos n
    have := pw_pos q
    have : (18446744073709551616 : Int) ^ n * 1 ≤ 18446744073709551616 ^ n * 18446744073709551616 ^ q := Int.mul_le_mul_of_nonneg_left (by omega) (by omega)
    omega
  show _ < val y k + y k * 18446744073709551616 ^ k
  have : 1 * 18446744073709551616 ^ k ≤ y k * 18446744073709551616 ^ k := Int.mul_le_mul_of_nonneg_right (by omega) (by omega)
  omega

set_option maxHeartbeats 1000000 in
theorem ncmp_any (a a' : Option Addr) (n c n' c' : Nat) (x y : Nat → Int) (w : World) (hn : n < 4294967296) (hn' : n' < 4294967296) (h : Num w a n c x) (h' : Num w a' n' c' y) :
    Calls Tryz.prog 99 #[.slice a n c, .slice a' n' c'] w fun e w' => e = .returned (.int .i64 (sgn (val x n) (val y n'))) ∧ ∃ m, w.drewN m = w' := by
  have hb := bare_any a n c x w hn h
  have hb' := bare_any a' n' c' y w hn' h'
  rw [← val_bare n, ← val_bare n']
  have hx := h.2.2.1
  have hy := h'.2.2.1
  have h1 := sizeL_sizeL x n
  have h1' := sizeL_sizeL y n'
  have hle := sizeL_le x n
  have hle' := sizeL_le y n'
  have hN := h.bare
  have hN' := h'.bare
  generalize sizeL x n = s at *
  generalize sizeL y n' = s' at *
  have HV : Hid (∀ k, cmpL x y k = sgn (val x k) (val y k)) := cmpL_val hx hy
  have HL1 : Hid (s < s' → sgn (val x s) (val y s') = sgn s s') := fun hlt => by
    have := val_longer hx hy hlt h1'
    unfold sgn; rw [if_pos this, if_pos (by omega)]
  have HL2 : Hid (s' < s → sgn (val x s) (val y s') = sgn s s') := fun hlt => by
    have := val_longer hy hx hlt h1
    unfold sgn; rw [if_neg (by omega), if_pos this, if_neg (by omega), if_pos (by omega)]
  clear h h' h1 h1' hx hy
  by_cases e : s = s'
  · subst e
    have hc : ∀ i, i < s → ∃ b off, a = some ⟨b, off, none⟩ ∧ w.cell? ⟨b, off + i, none⟩ = some (.int .u64 (x i)) := by
      intro i hi
      have h5 := hN.2.2.2.2
      rcases h5 with ⟨_, h⟩ | ⟨b, off, h, _, hc⟩
      · have := hN.1; omega
      · exact ⟨b, off, h, hc i hi⟩
    have hc' : ∀ i, i < s → ∃ b off, a' = some ⟨b, off, none⟩ ∧ w.cell? ⟨b, off + i, none⟩ = some (.int .u64 (y i)) := by
      intro i hi
      have h5 := hN'.2.2.2.2
      rcases h5 with ⟨_, h⟩ | ⟨b, off, h, _, hc⟩
      · have := hN'.1; omega
      · exact ⟨b, off, h, hc i hi⟩
    clear hN hN' HL1 HL2
    go_enter Tryz.func99, Tryz.ntmps99
    go_wp2_with (first | (go_at_call_of 100 (Value.slice a n c); refine hb.mono ?_; rintro e w' ⟨rfl, rfl⟩) | (go_at_call_of 100 (Value.slice a' n' c'); refine hb'.mono ?_; rintro e w' ⟨rfl, rfl⟩))
    go_loopw [7] (fun t wr => ∃ k m : Nat, k ≤ s ∧ cmpL x y k = cmpL x y s ∧ t = .int .i64 ((k : Int) - 1) ∧ w.drewN m = wr) (fun t _ => (intOf t + 1).toNat)
    case atStart => exact ⟨s, 0, Nat.le_refl _, rfl, by go_num, rfl⟩
    case round =>
      obtain ⟨k, m, hk, hs, rfl, rfl⟩ := hrel
      by_cases h0 : k = 0
      · subst h0
        have HS : Hid (sgn (val x s) (val y s) = 0) := by show _ = _; rw [← HV.out, ← hs]; rfl
        clear hs hc hc'
        go_wp2
        go_ret
        exact ⟨ret_int HS.out.symm, _, rfl⟩
      · obtain ⟨j, rfl⟩ : ∃ j, k = j + 1 := ⟨k - 1, by omega⟩
        have ej : ((j + 1 : Nat) : Int) - 1 = j := by omega
        have hjs : (j : Int) < s := by omega
        rw [ej]
        obtain ⟨b, off, rfl, hcj⟩ := hc j (by omega)
        obtain ⟨b', off', rfl, hcj'⟩ := hc' j (by omega)
        have hs' : (if x j < y j then -1 else if y j < x j then 1 else cmpL x y j) = cmpL x y s := hs
        have hcmp := compare_u64 (x j) (y j)
        by_cases he : x j = y j
        · have HR : Hid (cmpL x y j = cmpL x y s) := by rw [← hs', if_neg (by omega), if_neg (by omega)]; rfl
          have hne : (x j != y j) = false := by simp [he]
          rw [he] at hcj
          clear hs hs' hc hc' hcmp
          go_wp2
          go_quiet (fail)
          go_wp2
          go_roundw
          case rel => exact ⟨j, m + nq, by omega, HR.out, by go_num, rfl⟩
          case measure => simp [intOf]
        · have HR : Hid (sgn (val x s) (val y s) = sgn (x j) (y j)) := by
            show _ = _
            rw [← HV.out, ← hs']
            unfold sgn
            by_cases h1 : x j < y j
            · rw [if_pos h1, if_pos h1]
            · rw [if_neg h1, if_neg h1, if_pos (by omega), if_pos (by omega)]
          have hne : (x j != y j) = true := by simp [he]
          clear hs hs' hc hc'
          go_wp2
          go_quiet (fail)
          go_wp2
          go_quiet ((go_at_call 130; exact (hcmp _).mono fun _ _ h => ⟨h.1, _, h.2.symm⟩))
          go_wp2
          go_ret
          exact ⟨ret_int HR.out.symm, drw2 _ _ _ _⟩
  · have hne : ((s : Int) != s') = true := by simp; omega
    have hcmp := compare_int s s' w
    have HR : Hid (sgn (val x s) (val y s') = sgn s s') := by
      rcases Nat.lt_or_gt_of_ne e with h | h
      · exact HL1.out h
      · exact HL2.out h
    clear HL1 HL2 hN hN'
    go_enter Tryz.func99, Tryz.ntmps99
    go_wp2_with (first | (first | (go_at_call_of 100 (Value.slice a n c); refine hb.mono ?_; rintro e w' ⟨rfl, rfl⟩) | (go_at_call_of 100 (Value.slice a' n' c'); refine hb'.mono ?_; rintro e w' ⟨rfl, rfl⟩)) | (go_at_call 129; refine hcmp.mono ?_; rintro e w' ⟨rfl, rfl⟩))
    go_ret
    exact ⟨ret_int HR.out.symm, 0, rfl⟩

theorem rcmp_any (a a' : Option Addr) (n c n' c' : Nat) (x y : Nat → Int) (w : World) (hn : n < 4294967296) (hn' : n' < 4294967296) (h : Num w a n c x) (h' : Num w a' n' c' y) :
    Calls Tryz.prog 69 #[.slice a n c, .slice a' n' c'] w fun e w' => e = .returned (.int .i64 (sgn (val x n) (val y n'))) ∧ w = w' := by
  refine (cmp_any a a' n c n' c' x y w hn hn' h h').mono fun e w' hw => ⟨?_, hw.2.symm⟩
  rw [hw.1, cmpL_val h.2.2.1 h'.2.2.1, val_more h.2.2.2.1 _ (Nat.le_max_left n n'), val_more h'.2.2.2.1 _ (Nat.le_max_right n n')]
theorem size_num (a : Option Addr) (n c : Nat) (x : Nat → Int) (w : World) (hn : n < 4294967296) (h : Num w a n c x) :
    Calls Tryz.prog 16 #[.slice a n c] w fun e w' => e = .returned (.int .i64 (sizeL x n)) ∧ w = w' := by
  have h' := h
  obtain ⟨h1, h2, h3, h4, h5⟩ := h'
  rcases h5 with ⟨rfl, rfl⟩ | ⟨b, off, rfl, hb, hc⟩
  · obtain rfl : n = 0 := by omega
    exact (size_nil w).mono fun e w' hw => ⟨hw.1, hw.2.symm⟩
  · exact (size_any b off n c x w (by omega) hc).mono fun e w' hw => ⟨hw.1, hw.2.symm⟩
end
end Go.Proofs.YtpemdcnneabbfaaGreatDoor
