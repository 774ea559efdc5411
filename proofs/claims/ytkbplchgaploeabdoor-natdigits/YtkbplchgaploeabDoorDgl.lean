/-
  What the law NatDigits does: it returns true.
-/
import Derived.Test.YtkbplchgaploeabDoorRdc
set_option linter.unusedVariables false
set_option linter.unusedSimpArgs false
namespace Go.Proofs.YtkbplchgaploeabDoor
open Go.RowKit

theorem decL_rev {V : Int} {L : Nat} (h0 : 0 < V) (h : V < 10 ^ L) : revL V (sizeL (dgt V) L) = decL V L := by
  unfold decL revL
  rw [if_neg]
  intro e
  have := lt_sizeL (Int.le_of_lt h0) L h
  rw [e] at this; simp at this; omega
set_option maxHeartbeats 400000 in
theorem rdig_zero (a : Option Addr) (n c : Nat) (x : Nat → Int) (w : World) (hn : n < 100000) (h : Num w a n c x) (hz : sizeL x n = 0) :
    Calls Tryd.prog 7 #[.slice a n c] w fun e w' => e = .returned (.tuple #[.string ⟨#[48]⟩, .int .i64 0]) ∧ w = w' := by
  have hs := fun (w : World) (h : Num w a n c x) => size_num a n c x w (by omega) h
  rw [hz] at hs
  go_enter Tryd.func7, Tryd.ntmps7
  go_wp2_with (go_at_call 18; refine (hs _ h).mono ?_; rintro e w' ⟨rfl, rfl⟩)
  go_ret2
  exact ⟨rfl, rfl⟩
set_option maxHeartbeats 400000 in
theorem rdig_pos (a : Option Addr) (n c : Nat) (x : Nat → Int) (w : World) (hn : n < 100000) (h : Num w a n c x) (hsz : sizeL x n ≤ 2000) (hp : 0 < sizeL x n) :
    Calls Tryd.prog 7 #[.slice a n c] w fun e w' => ∃ L, val x n < 10 ^ L ∧ e = .returned (.tuple #[.string (strOfNums (revL (val x n) (sizeL (dgt (val x n)) L))), .int .i64 0]) ∧ Below w.heap.size w w' := by
  have hs := fun (w : World) (h : Num w a n c x) => size_num a n c x w (by omega) h
  have hd := rdec_any a n c x w hn h hsz hp
  have hs1 : (sizeL x n : Int) ≤ 2000 := by omega
  have hs2 : ((sizeL x n : Int) == 0) = false := by simp; omega
  generalize sizeL x n = q at *
  go_enter Tryd.func7, Tryd.ntmps7
  go_wp2_with (first | (go_at_call 18; refine (hs _ h).mono ?_; rintro e w' ⟨rfl, rfl⟩) | (go_at_call 19; refine hd.mono ?_; rintro e w' ⟨L, hL, rfl, hB⟩))
  go_ret2
  exact ⟨L, hL, rfl, hB⟩
/-- the digits as nat and the document write them -/
def digS (V : Int) : ByteArray := strOfNums (decL V 8800)
theorem p8800 {x : Nat → Int} {n : Nat} (hx : Words x) (hn : n ≤ 400) : 0 ≤ val x n ∧ val x n < 10 ^ 8800 := by
  have h := val_bd hx n
  have h2 := p22 n
  have h3 := p10_le (show 22 * n ≤ 8800 by omega)
  exact ⟨h.1, Int.lt_of_lt_of_le h.2 (Int.le_trans h2 h3)⟩
theorem rdig_all (a : Option Addr) (n c : Nat) (x : Nat → Int) (w : World) (hn : n ≤ 400) (h : Num w a n c x) :
    Calls Tryd.prog 7 #[.slice a n c] w fun e w' => e = .returned (.tuple #[.string (digS (val x n)), .int .i64 0]) ∧ Below w.heap.size w w' := by
  have hb := p8800 h.2.2.1 hn
  have hle := sizeL_le x n
  rcases Nat.eq_zero_or_pos (sizeL x n) with e | e
  · refine (rdig_zero a n c x w (by omega) h e).mono fun e1 w' hw => ⟨?_, hw.2 ▸ Below.refl _ _⟩
    have hv : val x n = 0 := by rw [← val_bare, e]; rfl
    rw [hw.1]
    unfold digS
    rw [decL_more (L' := 0) hb.1 hb.2 (by rw [hv]; decide)]
    rfl
  · refine (rdig_pos a n c x w (by omega) h (by omega) e).mono fun e1 w' ⟨L, hL, he, hB⟩ => ⟨?_, hB⟩
    have hp : 0 < val x n := by rw [← val_bare]; exact val_pos h.2.2.1 _ e (sizeL_sizeL _ _)
    rw [he, decL_rev hp hL, decL_more hb.1 hL hb.2]; rfl
theorem ndig_all (a : Option Addr) (n c : Nat) (x : Nat → Int) (w : World) (hn : n ≤ 400) (h : Num w a n c x) :
    Calls Tryd.prog 6 #[.slice a n c] w fun e w' => e = .returned (.tuple #[.string (digS (val x n)), .int .i64 0]) ∧ Below w.heap.size w w' := by
  have hb := p8800 h.2.2.1 hn
  have hle := sizeL_le x n
  refine (digits_any a n c x w (by omega) h (by omega)).mono fun e1 w' ⟨L, hL, he, hB⟩ => ⟨?_, hB⟩
  rw [he, decL_more hb.1 hL hb.2]; rfl

/-! the digits read again -/
theorem sb_nums {l : List Int} (hl : ∀ v ∈ l, 48 ≤ v ∧ v ≤ 57) {i : Nat} (hi : i < l.length) : sb (strOfNums l) i = l[i] := by
  unfold sb
  rw [dif_pos (by rw [strOfNums_size]; exact hi)]
  have h := hl l[i] (List.getElem_mem hi)
  have e : (strOfNums l)[i]'(by rw [strOfNums_size]; exact hi) = UInt8.ofNat l[i].toNat := by
    show (strOfNums l).data[i]'_ = _
    simp [strOfNums]
  rw [e]
  simp
  omega
theorem numV_rev {V : Int} {K : Nat} {u : ByteArray} (hu : ∀ i, i < K → sb u i = 48 + dgt V (K - 1 - i)) (h0 : 0 ≤ V) (hV : V < 10 ^ K) : ∀ j, j ≤ K → numV u j = V / 10 ^ (K - j)
  | 0, _ => by rw [Nat.sub_zero, Int.ediv_eq_zero_of_lt h0 hV]; rfl
  | j + 1, h => by
    have ih := numV_rev hu h0 hV j (by omega)
    simp only [numV]
    rw [ih, hu j (by omega)]
    have e1 : K - j = (K - (j + 1)) + 1 := by omega
    have e2 : K - 1 - j = K - (j + 1) := by omega
    rw [e1, e2]
    unfold dgt
    rw [← div_div10]
    generalize V / 10 ^ (K - (j + 1)) = W
    omega
theorem decL_len (V : Int) : (decL V 8800).length ≤ 8801 ∧ 0 < (decL V 8800).length := by
  unfold decL
  have := sizeL_le (dgt V) 8800
  split
  · simp
  · simp; omega
theorem decL_dig (V : Int) (L : Nat) : ∀ v ∈ decL V L, 48 ≤ v ∧ v ≤ 57 := by
  intro v hv
  unfold decL at hv
  split at hv
  · simp at hv; omega
  · simp at hv
    obtain ⟨i, _, rfl⟩ := hv
    have := dgt_bd V (sizeL (dgt V) L - 1 - i)
    omega
theorem numV_digS {V : Int} (h0 : 0 ≤ V) (hV : V < 10 ^ 8800) : numV (digS V) (decL V 8800).length = V := by
  have hK := lt_sizeL h0 8800 hV
  by_cases e : sizeL (dgt V) 8800 = 0
  · have e1 : decL V 8800 = [48] := by unfold decL; rw [if_pos e]
    rw [e] at hK
    have : V = 0 := by simp at hK; omega
    unfold digS
    rw [e1, this]; rfl
  · have e1 : decL V 8800 = revL V (sizeL (dgt V) 8800) := by unfold decL revL; rw [if_neg e]
    have hd := decL_dig V 8800
    unfold digS
    rw [e1] at hd ⊢
    generalize sizeL (dgt V) 8800 = K at *
    have hl : (revL V K).length = K := by simp [revL]
    rw [hl, numV_rev (K := K) (fun i hi => ?_) h0 hK K (Nat.le_refl _)]
    · simp
    · rw [sb_nums hd (by rw [hl]; exact hi)]; simp [revL]
def padS (V : Int) : ByteArray := ⟨#[48, 48, 48]⟩ ++ digS V
theorem padS_size (V : Int) : (padS V).size = 3 + (decL V 8800).length := by
  unfold padS digS
  rw [ByteArray.size_append, strOfNums_size]; rfl
theorem padS_hi (V : Int) (i : Nat) (hi : i < (decL V 8800).length) : sb (digS V) i = sb (padS V) (3 + i) := by
  unfold sb
  have h1 : i < (digS V).size := by unfold digS; rw [strOfNums_size]; exact hi
  have h2 : 3 + i < (padS V).size := by rw [padS_size]; omega
  unfold padS at h2 ⊢
  rw [dif_pos h1, dif_pos h2]
  congr 2
  rw [ByteArray.getElem_append_right (by show 3 ≤ 3 + i; omega)]
  congr 1
  show i = 3 + i - 3
  omega
theorem padS_lo (V : Int) (i : Nat) (hi : i < 3) : sb (padS V) i = 48 := by
  unfold sb
  have h2 : i < (padS V).size := by rw [padS_size]; omega
  unfold padS at h2 ⊢
  rw [dif_pos h2]
  rw [ByteArray.getElem_append_left (by show i < 3; omega)]
  match i, hi with
  | 0, _ => rfl
  | 1, _ => rfl
  | 2, _ => rfl
theorem padS_isDig (V : Int) : isDigB (padS V) = true := by
  unfold isDigB
  rw [digB_of]
  · simp [padS_size]; omega
  · intro k hk
    rw [padS_size] at hk
    rcases Nat.lt_or_ge k 3 with h | h
    · rw [padS_lo V k h]; omega
    · obtain ⟨i, rfl⟩ : ∃ i, k = 3 + i := ⟨k - 3, by omega⟩
      rw [← padS_hi V i (by omega)]
      unfold digS
      rw [sb_nums (decL_dig V 8800) (by omega)]
      exact decL_dig V 8800 _ (List.getElem_mem _)
theorem padS_val {V : Int} (h0 : 0 ≤ V) (hV : V < 10 ^ 8800) : numV (padS V) (padS V).size = V := by
  rw [padS_size, numV_app (u := digS V) 3 _ fun i hi => padS_hi V i hi, numV_digS h0 hV]
  have : numV (padS V) 3 = 0 := by simp [numV, padS_lo]
  rw [this]; omega
theorem pad_read (V : Int) (w : World) (h0 : 0 ≤ V) (hV : V < 10 ^ 8800) :
    Calls Tryd.prog 8 #[.string (⟨#[48, 48, 48]⟩ ++ digS V)] w fun e w' => ∃ o k cap z, e = .returned (.tuple #[.slice o k cap, .int .i64 0]) ∧ k ≤ 12000 ∧ Num w' o k cap z ∧ val z k = V ∧ sizeL z k = k ∧ Below w.heap.size w w' := by
  have h := nread_ok (padS V) w (padS_isDig V) (by rw [padS_size]; have := (decL_len V).1; omega)
  rw [padS_val h0 hV] at h
  exact h

set_option maxHeartbeats 4000000 in
theorem natDigits_any (a : Option Addr) (n c : Nat) (x : Nat → Int) (s : ByteArray) (w : World) (h : Num w a n c x) :
    Calls Tryd.prog 3 #[.slice a n c, .string s] w fun e w' => e = .returned (.bool true) ∧ Below w.heap.size w w' := by
  have hB : Below w.heap.size w w := Below.refl _ _
  by_cases hf : n ≤ 400
  · have i1 : (n : Int) ≤ 400 := by omega
    by_cases hf2 : s.size ≤ 13000
    · have i2 : (s.size : Int) ≤ 13000 := by omega
      have hv := p8800 h.2.2.1 hf
      have HX : Hid (Num w a n c x) := h
      have HV : Hid (0 ≤ val x n ∧ val x n < 10 ^ 8800) := hv
      have hds : (digS (val x n)).size ≤ 8801 := by unfold digS; rw [strOfNums_size]; exact (decL_len _).1
      clear h hv
      go_enter Tryd.func3, Tryd.ntmps3
      go_wp2_with (go_at_call 5; refine (awake_any _).mono ?_; rintro e wa ⟨rfl, hb⟩; replace hB := hB.trans (hb.mono hB.size))
      have t1 := ndig_all _ _ _ _ _ hf (HX.out.next hB)
      go_wp2_with (go_at_call 6; refine t1.mono ?_; rintro e w1 ⟨rfl, hb⟩; replace hB := hB.trans (hb.mono hB.size); clear t1 hb)
      have t2 := rdig_all _ _ _ _ _ hf (HX.out.next hB)
      go_wp2_with (go_at_call 7; refine t2.mono ?_; rintro e w2 ⟨rfl, hb⟩; replace hB := hB.trans (hb.mono hB.size); clear t2 hb)
      have t3 := fun w => nread_all s w (by omega)
      go_wp2_with (go_at_call 8; refine (t3 _).mono ?_; rintro e w3 ⟨o1, k1, p1, z1, rfl, hk1, hN1, hv1, hs1, hb⟩; replace hB := hB.trans (hb.mono hB.size); clear t3 hb)
      have t4 := fun w => rread_all s w (by omega)
      go_wp2_with (go_at_call 9; refine (t4 _).mono ?_; rintro e w4 ⟨o2, k2, p2, z2, rfl, hk2, hN2, hv2, hb⟩; replace hB := hB.trans (hb.mono hB.size); replace hN1 := hN1.next hb; clear t4 hb)
      have t5 := fun w => pad_read (val x n) w HV.out.1 HV.out.2
      go_wp2_with (go_at_call 8; (refine (t5 _).mono ?_; rintro e w5 ⟨o3, k3, p3, z3, rfl, hk3, hN3, hv3, hs3, hb⟩; replace hB := hB.trans (hb.mono hB.size); replace hN1 := hN1.next hb; replace hN2 := hN2.next hb; clear t5 hb))
      have s1 := lsame_any _ _ _ _ _ _ _ _ _ (by omega) (by omega) hN1 hN2 (by rw [hv1, hv2]) hs1
      have s2 := lsame_any _ _ _ _ _ _ _ _ _ (by omega) (by omega) hN3 (HX.out.next hB) hv3 hs3
      clear hN1 hN2 hN3
      go_wp2_with (go_at_call 10; refine s1.mono ?_; rintro e w' ⟨rfl, rfl⟩; clear s1)
      go_wp2_with (go_at_call 10; refine s2.mono ?_; rintro e w' ⟨rfl, rfl⟩; clear s2)
      go_ret
      exact ⟨rfl, hB⟩
    · have i2 : (13000 : Int) < s.size := by omega
      clear h
      go_enter Tryd.func3, Tryd.ntmps3
      go_wp2_with (go_at_call 5; refine (awake_any _).mono ?_; rintro e wa ⟨rfl, hb⟩; replace hB := hB.trans (hb.mono hB.size))
      go_ret
      exact ⟨rfl, hB⟩
  · have i1 : (400 : Int) < n := by omega
    clear h
    go_enter Tryd.func3, Tryd.ntmps3
    go_wp2_with (go_at_call 5; refine (awake_any _).mono ?_; rintro e wa ⟨rfl, hb⟩; replace hB := hB.trans (hb.mono hB.size))
    go_ret
    exact ⟨rfl, hB⟩
end Go.Proofs.YtkbplchgaploeabDoor
