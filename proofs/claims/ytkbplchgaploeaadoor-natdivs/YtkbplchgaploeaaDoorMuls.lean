/-
  What the document's Mul does, and the law NatMuls: it returns true.
-/
import Derived.Test.YtkbplchgaploeaaDoorNmu
set_option linter.unusedVariables false
set_option linter.unusedSimpArgs false
namespace Go.Proofs.YtkbplchgaploeaaDoor
open Go.RowKit

theorem times_val (b off n c b' off' n' c' : Nat) (x y : Nat → Int) (w : World) (hn : n < 1000000) (hn' : n' < 1000000) (h : Num w (some ⟨b, off, none⟩) n c x) (h' : Num w (some ⟨b', off', none⟩) n' c' y) :
    Calls Tryd.prog 30 #[.slice (some ⟨b, off, none⟩) n c, .slice (some ⟨b', off', none⟩) n' c'] w fun e w' => ∃ g k cap z, e = .returned (.slice (some ⟨g, 0, none⟩) k cap) ∧ k ≤ n + n' + 1 ∧ Num w' (some ⟨g, 0, none⟩) k cap z ∧ val z k = val x n * val y n' ∧ Below w.heap.size w w' :=
  (times_raw b off n c b' off' n' c' x y w hn hn' h h').mono fun e w' ⟨g, k, cap, z, e1, hk, hN, hv, hB⟩ => ⟨g, k, cap, z, e1, hk, hN, by rw [← hv, val_more hN.2.2.2.1 _ hk], hB⟩

set_option maxHeartbeats 1000000 in
theorem rmul_any (a a' : Option Addr) (n c n' c' : Nat) (x y : Nat → Int) (w : World) (hn : n < 1000000) (hn' : n' < 1000000) (h : Num w a n c x) (h' : Num w a' n' c' y) (hs : sizeL x n + sizeL y n' ≤ 2000) :
    Calls Tryd.prog 22 #[.slice a n c, .slice a' n' c'] w fun e w' => ∃ g k cap z, e = .returned (.tuple #[.slice (some ⟨g, 0, none⟩) k cap, .int .i64 0]) ∧ k ≤ 2001 ∧ Num w' (some ⟨g, 0, none⟩) k cap z ∧ val z k = val x n * val y n' ∧ Below w.heap.size w w' := by
  have s1 := size_num a n c x w (by omega) h
  have s2 := size_num a' n' c' y w (by omega) h'
  have t1 := trim_any a n c x w (by omega) h
  have t2 := fun wr (hb : Below w.heap.size w wr) => trim_any a' n' c' y wr (by omega) (h'.next hb)
  rw [← val_bare n, ← val_bare n']
  have hle := sizeL_le x n
  have hle' := sizeL_le y n'
  have hs' : (sizeL x n : Int) + sizeL y n' ≤ 2000 := by omega
  generalize sizeL x n = s at *
  generalize sizeL y n' = s' at *
  clear h h'
  go_enter Tryd.func22, Tryd.ntmps22
  go_wp2_with (first | (go_at_call_of 31 (Value.slice a n c); refine s1.mono ?_; rintro e w' ⟨rfl, rfl⟩) | (go_at_call_of 31 (Value.slice a' n' c'); refine s2.mono ?_; rintro e w' ⟨rfl, rfl⟩))
  go_wp2_with (go_at_call 45; refine t1.mono ?_; rintro e w1 ⟨g1, p1, rfl, hN1, hB1⟩; clear t1)
  have t3 := t2 _ hB1
  go_wp2_with (go_at_call 45; refine t3.mono ?_; rintro e w2 ⟨g2, p2, rfl, hN2, hB2⟩; clear t3)
  have hB := hB1.trans (hB2.mono hB1.size)
  have t4 := times_val g1 0 s p1 g2 0 s' p2 x y w2 (by omega) (by omega) (hN1.next hB2) hN2
  clear hN1 hN2
  go_wp2_with (go_at_call 30; refine t4.mono ?_; rintro e w3 ⟨g, k, cap, z, rfl, hk, hN, hv, hB3⟩)
  go_ret2
  exact ⟨g, k, cap, z, rfl, by omega, hN, hv, hB.trans (hB3.mono hB.size)⟩
set_option maxHeartbeats 1000000 in
theorem rmul_long (a a' : Option Addr) (n c n' c' : Nat) (x y : Nat → Int) (w : World) (hn : n < 1000000) (hn' : n' < 1000000) (h : Num w a n c x) (h' : Num w a' n' c' y) (hs : 2000 < sizeL x n + sizeL y n') :
    Calls Tryd.prog 22 #[.slice a n c, .slice a' n' c'] w fun e w' => e = .returned (.tuple #[.slice none 0 0, .int .i64 4]) ∧ w = w' := by
  have s1 := size_num a n c x w (by omega) h
  have s2 := size_num a' n' c' y w (by omega) h'
  have hle := sizeL_le x n
  have hle' := sizeL_le y n'
  have hs' : (2000 : Int) < (sizeL x n : Int) + sizeL y n' := by omega
  generalize sizeL x n = s at *
  generalize sizeL y n' = s' at *
  clear h h'
  go_enter Tryd.func22, Tryd.ntmps22
  go_wp2_with (first | (go_at_call_of 31 (Value.slice a n c); refine s1.mono ?_; rintro e w' ⟨rfl, rfl⟩) | (go_at_call_of 31 (Value.slice a' n' c'); refine s2.mono ?_; rintro e w' ⟨rfl, rfl⟩))
  go_ret2
  exact ⟨rfl, rfl⟩
theorem rmul_all (a a' : Option Addr) (n c n' c' : Nat) (x y : Nat → Int) (w : World) (hn : n < 1000000) (hn' : n' < 1000000) (h : Num w a n c x) (h' : Num w a' n' c' y) :
    Calls Tryd.prog 22 #[.slice a n c, .slice a' n' c'] w fun e w' => ∃ o k cap z, e = .returned (.tuple #[.slice o k cap, .int .i64 (mulE (sizeL x n) (sizeL y n'))]) ∧ k ≤ 2001 ∧ Num w' o k cap z ∧ val z k = mulV (sizeL x n) (sizeL y n') (val x n) (val y n') ∧ Below w.heap.size w w' := by
  by_cases hs : 2000 < sizeL x n + sizeL y n'
  · refine (rmul_long a a' n c n' c' x y w hn hn' h h' hs).mono fun e w' hw => ⟨none, 0, 0, _, ?_, Nat.zero_le _, num_none w', ?_, hw.2 ▸ Below.refl _ _⟩
    · rw [hw.1]; unfold mulE; rw [if_pos hs]
    · unfold mulV; rw [if_pos hs]; rfl
  · refine (rmul_any a a' n c n' c' x y w hn hn' h h' (by omega)).mono fun e w' ⟨g, k, cap, z, e1, hk, hN, hv1, hB⟩ => ⟨_, k, cap, z, ?_, by omega, hN, ?_, hB⟩
    · rw [e1]; unfold mulE; rw [if_neg hs]
    · rw [hv1]; unfold mulV; rw [if_neg hs]

set_option maxHeartbeats 4000000 in
theorem natMuls_any (a a' : Option Addr) (n c n' c' : Nat) (x y : Nat → Int) (w : World) (h : Num w a n c x) (h' : Num w a' n' c' y) :
    Calls Tryd.prog 4 #[.slice a n c, .slice a' n' c'] w fun e w' => e = .returned (.bool true) ∧ Below w.heap.size w w' := by
  have hB : Below w.heap.size w w := Below.refl _ _
  have f1 := fun w => few_any a n c w
  have f2 := fun w => few_any a' n' c' w
  by_cases hf : n ≤ 2500
  · by_cases hf' : n' ≤ 2500
    · rw [decide_eq_true hf] at f1
      rw [decide_eq_true hf'] at f2
      have c21 := fun wr (hb : Below w.heap.size w wr) => nmul_all a a' n c n' c' x y wr (by omega) (by omega) (h.next hb) (h'.next hb)
      have c21' := fun wr (hb : Below w.heap.size w wr) => nmul_all a' a n' c' n c y x wr (by omega) (by omega) (h'.next hb) (h.next hb)
      have c22 := fun wr (hb : Below w.heap.size w wr) => rmul_all a a' n c n' c' x y wr (by omega) (by omega) (h.next hb) (h'.next hb)
      have eE : mulE (sizeL y n') (sizeL x n) = mulE (sizeL x n) (sizeL y n') := by unfold mulE; rw [Nat.add_comm]
      have eV : mulV (sizeL y n') (sizeL x n) (val y n') (val x n) = mulV (sizeL x n) (sizeL y n') (val x n) (val y n') := by unfold mulV; rw [Nat.add_comm, Int.mul_comm]
      rw [eE, eV] at c21'
      clear h h' eE eV
      generalize mulE (sizeL x n) (sizeL y n') = E at *
      generalize mulV (sizeL x n) (sizeL y n') (val x n) (val y n') = V at *
      go_enter Tryd.func4, Tryd.ntmps4
      go_wp2_with (first
        | (go_at_call 9; refine (awake_any _).mono ?_; rintro e wa ⟨rfl, hb⟩; replace hB := hB.trans (hb.mono hB.size))
        | (go_at_call_of 10 (Value.slice a n c); refine (f1 _).mono ?_; rintro e w' ⟨rfl, rfl⟩)
        | (go_at_call_of 10 (Value.slice a' n' c'); refine (f2 _).mono ?_; rintro e w' ⟨rfl, rfl⟩)
        | (go_at_call 21; refine (c21 _ hB).mono ?_; rintro e w2 ⟨o1, k1, p1, z1, rfl, hk1, hD, v1, t1, hb⟩; replace hB := hB.trans (hb.mono hB.size); clear c21)
        | (go_at_call 22; refine (c22 _ hB).mono ?_; rintro e w3 ⟨o2, k2, p2, z2, rfl, hk2, hE, v2, hb⟩; replace hB := hB.trans (hb.mono hB.size); replace hD := hD.next hb))
      go_wp2_with (go_at_call 21; refine (c21' _ hB).mono ?_; rintro e w4 ⟨o3, k3, p3, z3, rfl, hk3, hF, v3, t3, hb⟩; replace hB := hB.trans (hb.mono hB.size); replace hD := hD.next hb; replace hE := hE.next hb)
      have hs1' := lsame_any _ _ k1 p1 k2 p2 z1 z2 _ (by omega) (by omega) hD hE (v1.trans v2.symm) t1
      have hs2' := lsame_any _ _ k3 p3 k1 p1 z3 z1 _ (by omega) (by omega) hF hD (v3.trans v1.symm) t3
      clear hD hE hF v1 v2 v3 t1 t3
      go_wp2_with (go_at_call 13; refine hs1'.mono ?_; rintro e w' ⟨rfl, rfl⟩; clear hs1')
      go_wp2_with (go_at_call 13; refine hs2'.mono ?_; rintro e w' ⟨rfl, rfl⟩)
      go_ret
      exact ⟨rfl, hB⟩
    · rw [decide_eq_true hf] at f1
      rw [decide_eq_false hf'] at f2
      clear h h'
      go_enter Tryd.func4, Tryd.ntmps4
      go_wp2_with (first
        | (go_at_call 9; refine (awake_any _).mono ?_; rintro e wa ⟨rfl, hb⟩; replace hB := hB.trans (hb.mono hB.size))
        | (go_at_call_of 10 (Value.slice a n c); refine (f1 _).mono ?_; rintro e w' ⟨rfl, rfl⟩)
        | (go_at_call_of 10 (Value.slice a' n' c'); refine (f2 _).mono ?_; rintro e w' ⟨rfl, rfl⟩))
      go_ret
      exact ⟨rfl, hB⟩
  · rw [decide_eq_false hf] at f1
    clear h h'
    go_enter Tryd.func4, Tryd.ntmps4
    go_wp2_with (first
      | (go_at_call 9; refine (awake_any _).mono ?_; rintro e wa ⟨rfl, hb⟩; replace hB := hB.trans (hb.mono hB.size))
      | (go_at_call_of 10 (Value.slice a n c); refine (f1 _).mono ?_; rintro e w' ⟨rfl, rfl⟩))
    go_ret
    exact ⟨rfl, hB⟩
end Go.Proofs.YtkbplchgaploeaaDoor
