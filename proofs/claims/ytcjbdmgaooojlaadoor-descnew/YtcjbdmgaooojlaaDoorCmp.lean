/-
  Comparing: what cmp.Compare, nat's Cmp, the document's Cmp, Same, Trimmed and the statements' same and few do: contracts.
-/
import Derived.Test.YtcjbdmgaooojlaaDoorUp
set_option linter.unusedVariables false
set_option linter.unusedSimpArgs false
set_option maxRecDepth 20000
namespace Go.Proofs.YtcjbdmgaooojlaaDoor
open Go.RowKit

theorem sizeL_congr {x y : Nat → Int} : ∀ n, (∀ i, i < n → x i = y i) → sizeL x n = sizeL y n
  | 0, _ => rfl
  | n + 1, h => by simp only [sizeL]; rw [h n (by omega), sizeL_congr n fun i hi => h i (by omega)]
theorem val_bare {x : Nat → Int} (m : Nat) : val x (sizeL x m) = val x m := by
  have h1 := val_more (sizeL_zero m fun i hi => segW_zero x 0 m i hi) m (sizeL_le _ m)
  have h2 : sizeL (segW x 0 m) m = sizeL x m := sizeL_congr m fun i hi => by rw [segW_lt x 0 m i hi, Nat.zero_add]
  rw [h2] at h1
  have hle := sizeL_le x m
  rw [val_congr (x := segW x 0 m) (y := x) m fun i hi => by rw [segW_lt x 0 m i hi, Nat.zero_add], val_congr (x := segW x 0 m) (y := x) (sizeL x m) fun i hi => by rw [segW_lt x 0 m i (by omega), Nat.zero_add]] at h1
  exact h1.symm

/-- -1, 0, 1 -/
def sgn (a b : Int) : Int := if a < b then -1 else if b < a then 1 else 0
theorem sgn_neg (a b : Int) : sgn b a = - sgn a b := by unfold sgn; split <;> split <;> first | omega | (split <;> omega) | rfl
theorem sgn_add (a b t : Int) : sgn (a + t) (b + t) = sgn a b := by
  unfold sgn
  by_cases h : a < b
  · rw [if_pos h, if_pos (by omega)]
  · rw [if_neg h, if_neg (by omega)]
    by_cases h' : b < a
    · rw [if_pos h', if_pos (by omega)]
    · rw [if_neg h', if_neg (by omega)]
theorem sgn_bd (a b : Int) : -1 ≤ sgn a b ∧ sgn a b ≤ 1 := by unfold sgn; split <;> (try split) <;> omega

theorem drw2 (w : World) (m a b : Nat) : ∃ k, w.drewN k = ((w.drewN m).drewN a).drewN b := ⟨m + a + b, by simp [World.drewN, Nat.add_assoc]⟩
theorem compare_u64 (a b : Int) (w : World) : Calls Tryd.prog 98 #[.int .u64 a, .int .u64 b] w fun e w' => e = .returned (.int .i64 (sgn a b)) ∧ w = w' := by
  have hN : ∀ (a : Int), Calls Tryd.prog 106 #[.int .u64 a] w fun e w' => e = .returned (.bool false) ∧ w = w' := by
    intro a
    go_enter Tryd.func106, Tryd.ntmps106
    go_wp2
    go_ret
    exact ⟨rfl, rfl⟩
  have ha := hN a
  have hb := hN b
  clear hN
  by_cases h1 : a < b
  · have HS : Hid (sgn a b = -1) := by show _ = _; unfold sgn; rw [if_pos h1]
    go_enter Tryd.func98, Tryd.ntmps98
    go_wp2_with (go_at_call 106; first | (refine ha.mono ?_; rintro e w' ⟨rfl, rfl⟩) | (refine hb.mono ?_; rintro e w' ⟨rfl, rfl⟩))
    go_ret
    exact ⟨ret_int HS.out.symm, rfl⟩
  · by_cases h2 : b < a
    · have HS : Hid (sgn a b = 1) := by show _ = _; unfold sgn; rw [if_neg h1, if_pos h2]
      go_enter Tryd.func98, Tryd.ntmps98
      go_wp2_with (go_at_call 106; first | (refine ha.mono ?_; rintro e w' ⟨rfl, rfl⟩) | (refine hb.mono ?_; rintro e w' ⟨rfl, rfl⟩))
      go_ret
      exact ⟨ret_int HS.out.symm, rfl⟩
    · have HS : Hid (sgn a b = 0) := by show _ = _; unfold sgn; rw [if_neg h1, if_neg h2]
      go_enter Tryd.func98, Tryd.ntmps98
      go_wp2_with (go_at_call 106; first | (refine ha.mono ?_; rintro e w' ⟨rfl, rfl⟩) | (refine hb.mono ?_; rintro e w' ⟨rfl, rfl⟩))
      go_ret
      exact ⟨ret_int HS.out.symm, rfl⟩
theorem compare_int (a b : Int) (w : World) : Calls Tryd.prog 97 #[.int .i64 a, .int .i64 b] w fun e w' => e = .returned (.int .i64 (sgn a b)) ∧ w = w' := by
  have hN : ∀ (a : Int), Calls Tryd.prog 105 #[.int .i64 a] w fun e w' => e = .returned (.bool false) ∧ w = w' := by
    intro a
    go_enter Tryd.func105, Tryd.ntmps105
    go_wp2
    go_ret
    exact ⟨rfl, rfl⟩
  have ha := hN a
  have hb := hN b
  clear hN
  by_cases h1 : a < b
  · have HS : Hid (sgn a b = -1) := by show _ = _; unfold sgn; rw [if_pos h1]
    go_enter Tryd.func97, Tryd.ntmps97
    go_wp2_with (go_at_call 105; first | (refine ha.mono ?_; rintro e w' ⟨rfl, rfl⟩) | (refine hb.mono ?_; rintro e w' ⟨rfl, rfl⟩))
    go_ret
    exact ⟨ret_int HS.out.symm, rfl⟩
  · by_cases h2 : b < a
    · have HS : Hid (sgn a b = 1) := by show _ = _; unfold sgn; rw [if_neg h1, if_pos h2]
      go_enter Tryd.func97, Tryd.ntmps97
      go_wp2_with (go_at_call 105; first | (refine ha.mono ?_; rintro e w' ⟨rfl, rfl⟩) | (refine hb.mono ?_; rintro e w' ⟨rfl, rfl⟩))
      go_ret
      exact ⟨ret_int HS.out.symm, rfl⟩
    · have HS : Hid (sgn a b = 0) := by show _ = _; unfold sgn; rw [if_neg h1, if_neg h2]
      go_enter Tryd.func97, Tryd.ntmps97
      go_wp2_with (go_at_call 105; first | (refine ha.mono ?_; rintro e w' ⟨rfl, rfl⟩) | (refine hb.mono ?_; rintro e w' ⟨rfl, rfl⟩))
      go_ret
      exact ⟨ret_int HS.out.symm, rfl⟩

/-- comparing words from the highest on is comparing values -/
theorem cmpL_val {x y : Nat → Int} (hx : Words x) (hy : Words y) : ∀ n, cmpL x y n = sgn (val x n) (val y n)
  | 0 => by simp [cmpL, sgn, val]
  | n + 1 => by
    have hxb := val_bd hx n
    have hyb := val_bd hy n
    have ih := cmpL_val hx hy n
    have hp := pw_pos n
    have e1 : val x (n + 1) = val x n + x n * 18446744073709551616 ^ n := rfl
    have e2 : val y (n + 1) = val y n + y n * 18446744073709551616 ^ n := rfl
    rw [e1, e2]
    simp only [cmpL]
    generalize (18446744073709551616 : Int) ^ n = P at *
    by_cases h1 : x n < y n
    · rw [if_pos h1]
      have : (x n + 1) * P ≤ y n * P := Int.mul_le_mul_of_nonneg_right (by omega) (by omega)
      rw [Int.add_mul, Int.one_mul] at this
      unfold sgn; rw [if_pos (by omega)]
    · rw [if_neg h1]
      by_cases h2 : y n < x n
      · rw [if_pos h2]
        have : (y n + 1) * P ≤ x n * P := Int.mul_le_mul_of_nonneg_right (by omega) (by omega)
        rw [Int.add_mul, Int.one_mul] at this
        unfold sgn; rw [if_neg (by omega), if_pos (by omega)]
      · have e : x n = y n := by omega
        rw [if_neg h2, ih, e, sgn_add]
/-- the longer one of two trimmed numbers is the greater -/
theorem val_longer {x y : Nat → Int} (hx : Words x) (hy : Words y) {n m : Nat} (h : n < m) (hm : sizeL y m = m) : val x n < val y m := by
  obtain ⟨k, rfl⟩ : ∃ k, m = k + 1 := ⟨m - 1, by omega⟩
  have hne : y k ≠ 0 := by
    intro e
    have : sizeL y (k + 1) = sizeL y k := by simp [sizeL, e]
    have := sizeL_le y k
    omega
  have h1 := (val_bd hx n).2
  have h2 := (val_bd hy k).1
  have h3 := pw_pos k
  have h4 := hy k
  have h5 : (18446744073709551616 : Int) ^ n ≤ 18446744073709551616 ^ k := by
    obtain ⟨q, rfl⟩ : ∃ q, k = n + q := ⟨k - n, by omega⟩
    rw [Int.pow_add]
    have := pw_pos n
    have := pw_pos q
    have : (18446744073709551616 : Int) ^ n * 1 ≤ 18446744073709551616 ^ n * 18446744073709551616 ^ q := Int.mul_le_mul_of_nonneg_left (by omega) (by omega)
    omega
  show _ < val y k + y k * 18446744073709551616 ^ k
  have : 1 * 18446744073709551616 ^ k ≤ y k * 18446744073709551616 ^ k := Int.mul_le_mul_of_nonneg_right (by omega) (by omega)
  omega

set_option maxHeartbeats 1000000 in
theorem ncmp_any (a a' : Option Addr) (n c n' c' : Nat) (x y : Nat → Int) (w : World) (hn : n < 4294967296) (hn' : n' < 4294967296) (h : Num w a n c x) (h' : Num w a' n' c' y) :
    Calls Tryd.prog 75 #[.slice a n c, .slice a' n' c'] w fun e w' => e = .returned (.int .i64 (sgn (val x n) (val y n'))) ∧ ∃ m, w.drewN m = w' := by
  have hb := bare_any a n c x w hn h
  have hb' := bare_any a' n' c' y w hn' h'
  rw [← val_bare n, ← val_bare n']
  have hx := h.2.2.1
  have hy := h'.2.2.1
  have h1 := sizeL_sizeL x n
  have h1' := sizeL_sizeL y n'
  have hle := sizeL_le x n
  have hle' := sizeL_le y n'
  have hN := h.bare
  have hN' := h'.bare
  generalize sizeL x n = s at *
  generalize sizeL y n' = s' at *
  have HV : Hid (∀ k, cmpL x y k = sgn (val x k) (val y k)) := cmpL_val hx hy
  have HL1 : Hid (s < s' → sgn (val x s) (val y s') = sgn s s') := fun hlt => by
    have := val_longer hx hy hlt h1'
    unfold sgn; rw [if_pos this, if_pos (by omega)]
  have HL2 : Hid (s' < s → sgn (val x s) (val y s') = sgn s s') := fun hlt => by
    have := val_longer hy hx hlt h1
    unfold sgn; rw [if_neg (by omega), if_pos this, if_neg (by omega), if_pos (by omega)]
  clear h h' h1 h1' hx hy
  by_cases e : s = s'
  · subst e
    have hc : ∀ i, i < s → ∃ b off, a = some ⟨b, off, none⟩ ∧ w.cell? ⟨b, off + i, none⟩ = some (.int .u64 (x i)) := by
      intro i hi
      have h5 := hN.2.2.2.2
      rcases h5 with ⟨_, h⟩ | ⟨b, off, h, _, hc⟩
      · have := hN.1; omega
      · exact ⟨b, off, h, hc i hi⟩
    have hc' : ∀ i, i < s → ∃ b off, a' = some ⟨b, off, none⟩ ∧ w.cell? ⟨b, off + i, none⟩ = some (.int .u64 (y i)) := by
      intro i hi
      have h5 := hN'.2.2.2.2
      rcases h5 with ⟨_, h⟩ | ⟨b, off, h, _, hc⟩
      · have := hN'.1; omega
      · exact ⟨b, off, h, hc i hi⟩
    clear hN hN' HL1 HL2
    go_enter Tryd.func75, Tryd.ntmps75
    go_wp2_with (first | (go_at_call_of 45 (Value.slice a n c); refine hb.mono ?_; rintro e w' ⟨rfl, rfl⟩) | (go_at_call_of 45 (Value.slice a' n' c'); refine hb'.mono ?_; rintro e w' ⟨rfl, rfl⟩))
    go_loopw [7] (fun t wr => ∃ k m : Nat, k ≤ s ∧ cmpL x y k = cmpL x y s ∧ t = .int .i64 ((k : Int) - 1) ∧ w.drewN m = wr) (fun t _ => (intOf t + 1).toNat)
    case atStart => exact ⟨s, 0, Nat.le_refl _, rfl, by go_num, rfl⟩
    case round =>
      obtain ⟨k, m, hk, hs, rfl, rfl⟩ := hrel
      by_cases h0 : k = 0
      · subst h0
        have HS : Hid (sgn (val x s) (val y s) = 0) := by show _ = _; rw [← HV.out, ← hs]; rfl
        clear hs hc hc'
        go_wp2
        go_ret
        exact ⟨ret_int HS.out.symm, _, rfl⟩
      · obtain ⟨j, rfl⟩ : ∃ j, k = j + 1 := ⟨k - 1, by omega⟩
        have ej : ((j + 1 : Nat) : Int) - 1 = j := by omega
        have hjs : (j : Int) < s := by omega
        rw [ej]
        obtain ⟨b, off, rfl, hcj⟩ := hc j (by omega)
        obtain ⟨b', off', rfl, hcj'⟩ := hc' j (by omega)
        have hs' : (if x j < y j then -1 else if y j < x j then 1 else cmpL x y j) = cmpL x y s := hs
        have hcmp := compare_u64 (x j) (y j)
        by_cases he : x j = y j
        · have HR : Hid (cmpL x y j = cmpL x y s) := by rw [← hs', if_neg (by omega), if_neg (by omega)]; rfl
          have hne : (x j != y j) = false := by simp [he]
          rw [he] at hcj
          clear hs hs' hc hc' hcmp
          go_wp2
          go_quiet (fail)
          go_wp2
          go_roundw
          case rel => exact ⟨j, m + nq, by omega, HR.out, by go_num, rfl⟩
          case measure => simp [intOf]
        · have HR : Hid (sgn (val x s) (val y s) = sgn (x j) (y j)) := by
            show _ = _
            rw [← HV.out, ← hs']
            unfold sgn
            by_cases h1 : x j < y j
            · rw [if_pos h1, if_pos h1]
            · rw [if_neg h1, if_neg h1, if_pos (by omega), if_pos (by omega)]
          have hne : (x j != y j) = true := by simp [he]
          clear hs hs' hc hc'
          go_wp2
          go_quiet (fail)
          go_wp2
          go_quiet ((go_at_call 98; exact (hcmp _).mono fun _ _ h => ⟨h.1, _, h.2.symm⟩))
          go_wp2
          go_ret
          exact ⟨ret_int HR.out.symm, drw2 _ _ _ _⟩
  · have hne : ((s : Int) != s') = true := by simp; omega
    have hcmp := compare_int s s' w
    have HR : Hid (sgn (val x s) (val y s') = sgn s s') := by
      rcases Nat.lt_or_gt_of_ne e with h | h
      · exact HL1.out h
      · exact HL2.out h
    clear HL1 HL2 hN hN'
    go_enter Tryd.func75, Tryd.ntmps75
    go_wp2_with (first | (first | (go_at_call_of 45 (Value.slice a n c); refine hb.mono ?_; rintro e w' ⟨rfl, rfl⟩) | (go_at_call_of 45 (Value.slice a' n' c'); refine hb'.mono ?_; rintro e w' ⟨rfl, rfl⟩)) | (go_at_call 97; refine hcmp.mono ?_; rintro e w' ⟨rfl, rfl⟩))
    go_ret
    exact ⟨ret_int HR.out.symm, 0, rfl⟩

theorem rcmp_any (a a' : Option Addr) (n c n' c' : Nat) (x y : Nat → Int) (w : World) (hn : n < 4294967296) (hn' : n' < 4294967296) (h : Num w a n c x) (h' : Num w a' n' c' y) :
    Calls Tryd.prog 36 #[.slice a n c, .slice a' n' c'] w fun e w' => e = .returned (.int .i64 (sgn (val x n) (val y n'))) ∧ w = w' := by
  refine (cmp_any a a' n c n' c' x y w hn hn' h h').mono fun e w' hw => ⟨?_, hw.2.symm⟩
  rw [hw.1, cmpL_val h.2.2.1 h'.2.2.1, val_more h.2.2.2.1 _ (Nat.le_max_left n n'), val_more h'.2.2.2.1 _ (Nat.le_max_right n n')]
theorem sgn_self (a : Int) : sgn a a = 0 := by unfold sgn; rw [if_neg (by omega), if_neg (by omega)]
theorem size_num (a : Option Addr) (n c : Nat) (x : Nat → Int) (w : World) (hn : n < 4294967296) (h : Num w a n c x) :
    Calls Tryd.prog 27 #[.slice a n c] w fun e w' => e = .returned (.int .i64 (sizeL x n)) ∧ w = w' := by
  have h' := h
  obtain ⟨h1, h2, h3, h4, h5⟩ := h'
  rcases h5 with ⟨rfl, rfl⟩ | ⟨b, off, rfl, hb, hc⟩
  · obtain rfl : n = 0 := by omega
    exact (size_nil w).mono fun e w' hw => ⟨hw.1, hw.2.symm⟩
  · exact (size_any b off n c x w (by omega) hc).mono fun e w' hw => ⟨hw.1, hw.2.symm⟩

set_option maxHeartbeats 400000 in
theorem rsame_any (a a' : Option Addr) (n c n' c' : Nat) (x y : Nat → Int) (w : World) (hn : n < 4294967296) (hn' : n' < 4294967296) (h : Num w a n c x) (h' : Num w a' n' c' y) (hv : val x n = val y n') :
    Calls Tryd.prog 21 #[.slice a n c, .slice a' n' c'] w fun e w' => e = .returned (.bool true) ∧ w = w' := by
  have hc := rcmp_any a a' n c n' c' x y w hn hn' h h'
  rw [hv, sgn_self] at hc
  clear h h' hv
  go_enter Tryd.func21, Tryd.ntmps21
  go_wp2_with (go_at_call 36; refine hc.mono ?_; rintro e w' ⟨rfl, rfl⟩)
  go_ret
  exact ⟨rfl, rfl⟩
end Go.Proofs.YtcjbdmgaooojlaaDoor
