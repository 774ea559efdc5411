/-
  What the law NatAdds does: it returns true.
-/
import Derived.Test.YtkbplchgaploeaaDoorNln
set_option linter.unusedVariables false
set_option linter.unusedSimpArgs false
namespace Go.Proofs.YtkbplchgaploeaaDoor
open Go.RowKit

theorem ncmp_b (a a' : Option Addr) (n c n' c' : Nat) (x y : Nat → Int) (w : World) (hn : n < 4294967296) (hn' : n' < 4294967296) (h : Num w a n c x) (h' : Num w a' n' c' y) :
    Calls Tryd.prog 15 #[.slice a n c, .slice a' n' c'] w fun e w' => e = .returned (.int .i64 (sgn (val x n) (val y n'))) ∧ Below w.heap.size w w' :=
  (ncmp_any a a' n c n' c' x y w hn hn' h h').mono fun e w' ⟨h1, m, hm⟩ => ⟨h1, hm ▸ below_drewN (Below.refl _ _) m⟩
def subE (V W : Int) : Int := if V < W then 3 else 0
def subV (V W : Int) : Int := if V < W then 0 else V - W
theorem num_none (w : World) : Num w none 0 0 (fun _ => 0) := ⟨Nat.le_refl _, by unfold maxLen; omega, fun _ => (by decide : (0 : Int) ≤ 0 ∧ (0 : Int) ≤ 18446744073709551615), fun _ _ => rfl, Or.inl ⟨rfl, rfl⟩⟩
theorem nsub_all (a a' : Option Addr) (n c n' c' : Nat) (x y : Nat → Int) (w : World) (hn : n < 4000000000) (hn' : n' < 4000000000) (h : Num w a n c x) (h' : Num w a' n' c' y) :
    Calls Tryd.prog 11 #[.slice a n c, .slice a' n' c'] w fun e w' => ∃ o k cap z, e = .returned (.tuple #[.slice o k cap, .int .i64 (subE (val x n) (val y n'))]) ∧ k ≤ n ∧ Num w' o k cap z ∧ val z k = subV (val x n) (val y n') ∧ sizeL z k = k ∧ Below w.heap.size w w' := by
  by_cases hv : val x n < val y n'
  · refine (nsub_less a a' n c n' c' x y w hn hn' h h' hv).mono fun e w' hw => ⟨none, 0, 0, _, ?_, Nat.zero_le _, num_none w', ?_, rfl, hw.2⟩
    · rw [hw.1]; unfold subE; rw [if_pos hv]
    · unfold subV; rw [if_pos hv]; rfl
  · refine (nsub_any a a' n c n' c' x y w hn hn' h h' (by omega)).mono fun e w' ⟨g, k, cap, z, e1, hk, hN, hv1, hs, hB⟩ => ⟨_, k, cap, z, ?_, Nat.le_trans hk (sizeL_le x n), hN, ?_, hs, hB⟩
    · rw [e1]; unfold subE; rw [if_neg hv]
    · rw [hv1]; unfold subV; rw [if_neg hv]
theorem rsub_all (a a' : Option Addr) (n c n' c' : Nat) (x y : Nat → Int) (w : World) (hn : n < 4000000000) (hn' : n' < 4000000000) (h : Num w a n c x) (h' : Num w a' n' c' y) :
    Calls Tryd.prog 12 #[.slice a n c, .slice a' n' c'] w fun e w' => ∃ o k cap z, e = .returned (.tuple #[.slice o k cap, .int .i64 (subE (val x n) (val y n'))]) ∧ k ≤ max n n' ∧ Num w' o k cap z ∧ val z k = subV (val x n) (val y n') ∧ Below w.heap.size w w' := by
  by_cases hv : val x n < val y n'
  · refine (rsub_less a a' n c n' c' x y w hn hn' h h' hv).mono fun e w' hw => ⟨none, 0, 0, _, ?_, Nat.zero_le _, num_none w', ?_, hw.2⟩
    · rw [hw.1]; unfold subE; rw [if_pos hv]
    · unfold subV; rw [if_pos hv]; rfl
  · refine (rsub_val a a' n c n' c' x y w hn hn' h h' (by omega)).mono fun e w' ⟨g, k, cap, z, e1, hk, hN, hv1, hB⟩ => ⟨_, k, cap, z, ?_, hk, hN, ?_, hB⟩
    · rw [e1]; unfold subE; rw [if_neg hv]
    · rw [hv1]; unfold subV; rw [if_neg hv]

set_option maxHeartbeats 4000000 in
theorem natAdds_any (a a' : Option Addr) (n c n' c' : Nat) (x y : Nat → Int) (w : World) (h : Num w a n c x) (h' : Num w a' n' c' y) :
    Calls Tryd.prog 3 #[.slice a n c, .slice a' n' c'] w fun e w' => e = .returned (.bool true) ∧ Below w.heap.size w w' := by
  have hB : Below w.heap.size w w := Below.refl _ _
  have f1 := fun w => few_any a n c w
  have f2 := fun w => few_any a' n' c' w
  by_cases hf : n ≤ 2500
  · by_cases hf' : n' ≤ 2500
    · rw [decide_eq_true hf] at f1
      rw [decide_eq_true hf'] at f2
      have c11 := fun wr (hb : Below w.heap.size w wr) => nsub_all a a' n c n' c' x y wr (by omega) (by omega) (h.next hb) (h'.next hb)
      have c12 := fun wr (hb : Below w.heap.size w wr) => rsub_all a a' n c n' c' x y wr (by omega) (by omega) (h.next hb) (h'.next hb)
      have c14 := fun wr (hb : Below w.heap.size w wr) => ntrim_any a n c x wr (by omega) (h.next hb)
      have c15 := fun wr (hb : Below w.heap.size w wr) => ncmp_b a a' n c n' c' x y wr (by omega) (by omega) (h.next hb) (h'.next hb)
      have c15' := fun wr (hb : Below w.heap.size w wr) => ncmp_b a' a n' c' n c y x wr (by omega) (by omega) (h'.next hb) (h.next hb)
      have c16 := fun wr (hb : Below w.heap.size w wr) => rcmp_any a a' n c n' c' x y wr (by omega) (by omega) (h.next hb) (h'.next hb)
      have c17 := fun wr (hb : Below w.heap.size w wr) => nadd_any a a' n c n' c' x y wr (by omega) (by omega) (h.next hb) (h'.next hb)
      have c18 := fun wr (hb : Below w.heap.size w wr) => radd_val a a' n c n' c' x y wr (by omega) (by omega) (h.next hb) (h'.next hb)
      have c19 := fun wr (hb : Below w.heap.size w wr) => nlen_any a n c x wr (by omega) (h.next hb)
      have c20 := fun wr (hb : Below w.heap.size w wr) => rlen_num a n c x wr (by omega) (h.next hb)
      have c13 := fun wr (hb : Below w.heap.size w wr) g (hT : Num wr (some ⟨g, 0, none⟩) (sizeL x n) (sizeL x n) x) => lsame_any (some ⟨g, 0, none⟩) a (sizeL x n) (sizeL x n) n c x x wr (Nat.lt_of_le_of_lt (sizeL_le x n) (by omega)) (by omega) hT (h.next hb) (val_bare n) (sizeL_sizeL x n)
      have hTn := fun (wr : World) => num_of_block (w := wr) (k := sizeL x n) (ss := arrOf x (sizeL x n)) (Nat.lt_of_le_of_lt (sizeL_le x n) (by omega)) h.2.2.1 h.bare.2.2.2.1 (arrOf_size _ _) (fun j hj => arrOf_get _ _ _ _)
      have hsg := sgn_bd (val x n) (val y n')
      rw [sgn_neg (val x n) (val y n')] at c15'
      have hs1 := sizeL_le x n
      have hs2 := sizeL_le y n'
      clear h h'
      generalize lenL x n = LN at *
      generalize val x n = VX at *
      generalize val y n' = VY at *
      generalize sizeL x n = s at *
      generalize sizeL y n' = s' at *
      generalize sgn VX VY = sg at *
      go_enter Tryd.func3, Tryd.ntmps3
      go_wp2_with (first
        | (go_at_call 9; refine (awake_any _).mono ?_; rintro e wa ⟨rfl, hb⟩; replace hB := hB.trans (hb.mono hB.size))
        | (go_at_call_of 10 (Value.slice a n c); refine (f1 _).mono ?_; rintro e w' ⟨rfl, rfl⟩)
        | (go_at_call_of 10 (Value.slice a' n' c'); refine (f2 _).mono ?_; rintro e w' ⟨rfl, rfl⟩)
        | (go_at_call 11; refine (c11 _ hB).mono ?_; rintro e w2 ⟨o1, k1, p1, z1, rfl, hk1, hD, v1, t1, hb⟩; replace hB := hB.trans (hb.mono hB.size))
        | (go_at_call 12; refine (c12 _ hB).mono ?_; rintro e w3 ⟨o2, k2, p2, z2, rfl, hk2, hE, v2, hb⟩; replace hB := hB.trans (hb.mono hB.size); replace hD := hD.next hb))
      go_wp2_with (go_at_call 14; refine (c14 _ hB).mono ?_; rintro e w4 ⟨rfl, hw4⟩)
      have hT := hTn w3
      have hb4 := below1 w3 (.cells (arrOf x s) 44)
      rw [hw4] at hT hb4
      replace hB := hB.trans (hb4.mono hB.size)
      replace hD := hD.next hb4
      replace hE := hE.next hb4
      have hs13 := c13 w4 hB _ hT
      generalize w3.heap.size = G at *
      clear hw4 hT hb4 c13 hTn c14 c11 c12 f1 f2
      go_wp2_with (first
        | (go_at_call_of 13 (Value.slice (some ⟨G, 0, none⟩) s s); refine hs13.mono ?_; rintro e w' ⟨rfl, rfl⟩)
        | (go_at_call 15; refine (c15 _ hB).mono ?_; rintro e w5 ⟨rfl, hb⟩; replace hB := hB.trans (hb.mono hB.size); replace hD := hD.next hb; replace hE := hE.next hb)
        | (go_at_call 16; refine (c16 _ hB).mono ?_; rintro e w' ⟨rfl, rfl⟩; have c15s := c15; clear c15))
      go_wp2_with (go_at_call 15; refine (c15' _ hB).mono ?_; rintro e w5 ⟨rfl, hb⟩; replace hB := hB.trans (hb.mono hB.size); replace hD := hD.next hb; replace hE := hE.next hb; clear c15')
      go_wp2_with (first
        | (go_at_call 15; refine (c15s _ hB).mono ?_; rintro e w5 ⟨rfl, hb⟩; replace hB := hB.trans (hb.mono hB.size); replace hD := hD.next hb; replace hE := hE.next hb)
        | (go_at_call 17; refine (c17 _ hB).mono ?_; rintro e w6 ⟨g5, k5, p5, z5, rfl, hk5, hS, v5, t5, hb⟩; replace hB := hB.trans (hb.mono hB.size); replace hD := hD.next hb; replace hE := hE.next hb)
        | (go_at_call 18; refine (c18 _ hB).mono ?_; rintro e w7 ⟨g6, k6, p6, z6, rfl, hk6, hR, v6, hb⟩; replace hB := hB.trans (hb.mono hB.size); replace hD := hD.next hb; replace hE := hE.next hb; replace hS := hS.next hb))
      have hs1' := lsame_any _ _ k5 p5 k6 p6 z5 z6 _ (by omega) (by omega) hS hR (v5.trans v6.symm) t5
      have hs2' := lsame_any _ _ k1 p1 k2 p2 z1 z2 _ (by omega) (by omega) hD hE (v1.trans v2.symm) t1
      clear hS hR hD hE v1 v2 v5 v6 t1 t5
      go_wp2_with (first
        | (go_at_call_of 13 (Value.slice (some ⟨g5, 0, none⟩) k5 p5); refine hs1'.mono ?_; rintro e w' ⟨rfl, rfl⟩)
        | (go_at_call_of 13 (Value.slice o1 k1 p1); refine hs2'.mono ?_; rintro e w' ⟨rfl, rfl⟩)
        | (go_at_call 19; refine (c19 _ hB).mono ?_; rintro e w' ⟨rfl, rfl⟩)
        | (go_at_call 20; refine (c20 _ hB).mono ?_; rintro e w' ⟨rfl, rfl⟩))
      go_ret
      exact ⟨rfl, hB⟩
    · rw [decide_eq_true hf] at f1
      rw [decide_eq_false hf'] at f2
      clear h h'
      go_enter Tryd.func3, Tryd.ntmps3
      go_wp2_with (first
        | (go_at_call 9; refine (awake_any _).mono ?_; rintro e wa ⟨rfl, hb⟩; replace hB := hB.trans (hb.mono hB.size))
        | (go_at_call_of 10 (Value.slice a n c); refine (f1 _).mono ?_; rintro e w' ⟨rfl, rfl⟩)
        | (go_at_call_of 10 (Value.slice a' n' c'); refine (f2 _).mono ?_; rintro e w' ⟨rfl, rfl⟩))
      go_ret
      exact ⟨rfl, hB⟩
  · rw [decide_eq_false hf] at f1
    clear h h'
    go_enter Tryd.func3, Tryd.ntmps3
    go_wp2_with (first
      | (go_at_call 9; refine (awake_any _).mono ?_; rintro e wa ⟨rfl, hb⟩; replace hB := hB.trans (hb.mono hB.size))
      | (go_at_call_of 10 (Value.slice a n c); refine (f1 _).mono ?_; rintro e w' ⟨rfl, rfl⟩))
    go_ret
    exact ⟨rfl, hB⟩
end Go.Proofs.YtkbplchgaploeaaDoor
