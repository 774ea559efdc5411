/-
  Texts that the proof leans on.
-/
import Derived.Test.YtpemdcnneabbfaaDoorJ20
import Derived.Test.YtpemdcnneabbfaaDoorJ15
import Derived.Deep.Cut
import Derived.Test.YtpemdcnneabbfaaDoorJ3
import Derived.Deep.CutRange
set_option linter.unusedVariables false
set_option linter.unusedSectionVars false
set_option linter.unusedSimpArgs false
set_option maxRecDepth 20000
namespace Go.Proofs.YtpemdcnneabbfaaDoor
open Go.RowKit
section
theorem nz_more2 {K V : Nat} {v : Value} {w w' : World} (h : Nz K V v w) (hb : Below w.heap.size w w') : Nz (K + 2) V v w' := by
  obtain ⟨a, k, cap, z, rfl, hk, hN, hv, hs⟩ := h
  exact ⟨a, k, cap, z, rfl, by omega, hN.next hb, hv, hs⟩
theorem nt_w1 {W : World} {g V : Nat} {vi : Int} (hg : g = W.heap.size) (hv : vi = (V : Int)) (hb : V < 18446744073709551616) : Nt 1 V (.slice (some ⟨g, 0, none⟩) 1 1) (W.alloc (.cells #[.int .u64 vi] 22)) := by
  subst hg hv
  exact ⟨_, 1, 1, oneW V, rfl, Nat.le_refl _, num_one W V (by omega), val_one1 V⟩
section
variable (d : Int) (s odd far : Bool) (vn vd : Value) (Q R D : Nat) (w : World) (hvb : Nt 2001 D vd w)
  (c59 : Calls Tryd.prog 68 #[vn, vd] w fun e w' => ∃ q r, e = .returned (.tuple #[q, r, .int .i64 0]) ∧ Nz 2001 Q q w' ∧ Nz 2001 R r w' ∧ Below w.heap.size w w')
  (c60 : ∀ W vr vb, Nt 2001 R vr W → Nt 2001 D vb W → Calls Tryd.prog 69 #[.int .i64 d, .bool s, .bool odd, vr, vb] W fun e w' => e = .returned (.bool far) ∧ Below W.heap.size W w')
  (c26 : ∀ W vr, Nt 2001 R vr W → Calls Tryd.prog 33 #[vr] W fun e w' => e = .returned (.int .i64 (bl R : Int)) ∧ W = w')
  (c61 : ∀ W q v, Nt 2001 Q q W → Nt 1 1 v W → Calls Tryd.prog 70 #[q, v] W fun e w' => ∃ r, e = .returned r ∧ Nz 2003 (Q + 1) r w' ∧ Below W.heap.size W w')
  (hodd : ∀ k z, Words z → val z k = (Q : Int) → 0 < k → (bits BinOp.and IntKind.u64 (z 0) 1 == 1) = odd)
  (hodd0 : Q = 0 → odd = false)
include hvb c59 c60 c26 c61 hodd hodd0
set_option maxHeartbeats 2000000 in
theorem whole_cw : Calls Tryd.prog 57 #[.int .i64 d, .bool s, vn, vd] w fun e w' => ∃ v, e = .returned (.tuple #[v, .bool (((bl R : Nat) : Int) == 0)]) ∧ Nz 2003 (if far then Q + 1 else Q) v w' ∧ Below w.heap.size w w' := by
  go_enter Tryd.func57, Tryd.ntmps57
  go_upto_region 2 with (go_at_call 68; refine c59.mono ?_; rintro e w2 ⟨q, r, rfl, hq, hr, hb2⟩)
  replace hvb := hvb.next hb2
  have hq' := hq
  obtain ⟨aq, kq, cq, zq, rfl, hkq, hNq, hvq, hsq⟩ := hq
  go_cut [12] from 13 (fun o wc => o = .bool odd ∧ wc = w2)
  case first =>
    rcases Nat.eq_zero_or_pos kq with hk0 | hk0
    · have h0 : Q = 0 := by
        subst hk0
        have : val zq 0 = 0 := rfl
        omega
      have ho := hodd0 h0
      subst ho hk0
      clear hodd hodd0 c59 c60 c61 c26
      go_wp2
      go_meet
      exact ⟨rfl, rfl⟩
    · have ho := hodd kq zq hNq.2.2.1 hvq hk0
      have hki : (0 : Int) < kq := by omega
      have hz0 := hNq.2.2.1 0
      obtain ⟨n1, n2, n3, n4, n5⟩ := hNq
      rcases n5 with ⟨_, n6⟩ | ⟨b, off, rfl, n7, n8⟩
      · omega
      · have hc0 := n8 0 hk0
        rw [Nat.add_zero] at hc0
        subst ho
        clear hodd hodd0 c59 c60 c61 c26
        go_wp2
        go_meet
        exact ⟨rfl, rfl⟩
  case rest =>
    obtain ⟨rfl, rfl⟩ := hcut
    clear hNq hvq hsq hodd hodd0 c59
    cases far with
    | false =>
      go_wp2_with (first
        | (go_at_call 69; refine (c60 _ _ _ hr.nt hvb).mono ?_; rintro e w3 ⟨rfl, hb3⟩)
        | (go_at_call 33; refine (c26 _ _ (hr.nt.next hb3)).mono ?_; rintro e w4 ⟨rfl, rfl⟩))
      exact bodyPost_ret (v := .tuple #[_, _]) (by simp only [results, Tryd.results57]; go_simp) rfl ⟨_, rfl, nz_more2 hq' hb3, bnx hb2 hb3⟩
    | true =>
      go_wp2_with (first
        | (go_at_call 69; refine (c60 _ _ _ hr.nt hvb).mono ?_; rintro e w3 ⟨rfl, hb3⟩)
        | (go_at_call 70; refine (c61 _ _ _ (hq'.nt.next (bnx hb3 bgo)) (nt_w1 (by simp) rfl (by decide))).mono ?_; rintro e w4 ⟨v4, rfl, h4, hb4⟩; have hA4 : Below wc.heap.size wc w4 := bnx (bnx hb3 bgo) hb4)
        | (go_at_call 33; refine (c26 _ _ (hr.nt.next hA4)).mono ?_; rintro e w5 ⟨rfl, rfl⟩))
      exact bodyPost_ret (v := .tuple #[v4, _]) (by simp only [results, Tryd.results57]; go_simp) rfl ⟨_, rfl, h4, bnx hb2 hA4⟩
end
theorem odd_low {k Q : Nat} {z : Nat → Int} (hz : Words z) (hv : val z k = (Q : Int)) (hk : 0 < k) : (bits BinOp.and IntKind.u64 (z 0) 1 == 1) = decide (Q % 2 = 1) := by
  have hb := hz 0
  rw [show (1 : Int) = 2 ^ 1 - 1 by decide, and_mask hb (by decide)]
  obtain ⟨k', rfl⟩ : ∃ k', k = 1 + k' := ⟨k - 1, by omega⟩
  have hs := val_split z 1 k'
  rw [hv] at hs
  have h10 : val z 1 = z 0 := by show val z 0 + z 0 * 18446744073709551616 ^ 0 = z 0; simp [val]
  rw [h10, Int.pow_one] at hs
  rcases Nat.mod_two_eq_zero_or_one Q with e | e
  · rw [decide_eq_false (by omega)]
    rw [beq_eq_false_iff_ne]; omega
  · rw [decide_eq_true e]
    rw [beq_iff_eq]; omega
theorem bl_nought (R : Nat) : (((bl R : Nat) : Int) == 0) = decide (R = 0) := by
  by_cases hz : R = 0
  · rw [hz]; rfl
  · rw [decide_eq_false hz, beq_eq_false_iff_ne]
    have := mt bl_zero.1 hz
    omega
/-- a fraction rounded to a whole number, and whether it is one -/
theorem whole_cv (d : Int) (s : Bool) {N D : Nat} {vn vd : Value} {w : World} (h : Nt 2001 N vn w) (h' : Nt 2001 D vd w) (hD : D ≠ 0) (h1 : bl N ≤ 128000) (h2 : bl D ≤ 128000) :
    Calls Tryd.prog 57 #[.int .i64 d, .bool s, vn, vd] w fun e w' => ∃ v, e = .returned (.tuple #[v, .bool (decide (N % D = 0))]) ∧ Nz 2003 (if faB d s (decide (N / D % 2 = 1)) (N % D) D then N / D + 1 else N / D) v w' ∧ Below w.heap.size w w' := by
  refine (whole_cw d s (decide (N / D % 2 = 1)) (faB d s (decide (N / D % 2 = 1)) (N % D) D) vn vd (N / D) (N % D) D w h' (ndiv_v (by decide) (by decide) h h' h1 h2 hD) (fun W vr vb a b => farther_v d s _ (by decide) (by decide) a b) (fun W vr a => nlen_v (by decide) a) (fun W q v a b => nadd_v (by decide) (by decide) a b) (fun k z hz hv hk => odd_low hz hv hk) ?_).mono ?_
  · intro h0
    rw [h0]; rfl
  · rintro e w' ⟨v, e1, e2, e3⟩
    rw [bl_nought] at e1
    exact ⟨v, e1, e2, e3⟩
end
section
theorem nt_one {W : World} {g V : Nat} {vi : Int} (hg : g = W.heap.size) (hv : vi = (V : Int)) (hb : V < 18446744073709551616) : Nt 1 V (.slice (some ⟨g, 0, none⟩) 1 1) (W.alloc (.cells #[.int .u64 vi] 22)) := by
  subst hg hv
  exact ⟨_, 1, 1, oneW V, rfl, Nat.le_refl _, num_one W V (by omega), val_one1 V⟩
set_option maxHeartbeats 400000 in
theorem shifted_neg (n : Int) (m : Nat) (vn vd : Value) (B : Nat) (w : World) (hn : n < 0) (hm : -n = (m : Int)) (hm2 : m < 1000000)
    (c88 : Calls Tryd.prog 61 #[vd, .int .i64 (m : Int)] w fun e w' => ∃ r, e = .returned (.tuple #[r, .int .i64 0]) ∧ Nz 2001 B r w' ∧ Below w.heap.size w w') :
    Calls Tryd.prog 56 #[vn, vd, .int .i64 n] w fun e w' => ∃ r, e = .returned (.tuple #[vn, r]) ∧ Nz 2001 B r w' ∧ Below w.heap.size w w' := by
  obtain rfl : n = -(m : Int) := by omega
  clear hm
  have hm1 : 0 < m := by omega
  go_enter Tryd.func56, Tryd.ntmps56
  go_wp2_with (go_at_call 61; refine c88.mono ?_; rintro e w1 ⟨r, rfl, hr, hb1⟩)
  exact bodyPost_ret (v := .tuple #[vn, r]) (by simp only [results, Tryd.results56]; go_simp) rfl ⟨_, rfl, hr, hb1⟩
set_option maxHeartbeats 400000 in
theorem shifted_pos (n : Int) (vn vd : Value) (A : Nat) (w : World) (hn : 0 ≤ n)
    (c88 : Calls Tryd.prog 61 #[vn, .int .i64 n] w fun e w' => ∃ r, e = .returned (.tuple #[r, .int .i64 0]) ∧ Nz 2001 A r w' ∧ Below w.heap.size w w') :
    Calls Tryd.prog 56 #[vn, vd, .int .i64 n] w fun e w' => ∃ r, e = .returned (.tuple #[r, vd]) ∧ Nz 2001 A r w' ∧ Below w.heap.size w w' := by
  have hn' : ¬ n < 0 := by omega
  go_enter Tryd.func56, Tryd.ntmps56
  go_wp2_with (go_at_call 61; refine c88.mono ?_; rintro e w1 ⟨r, rfl, hr, hb1⟩)
  exact bodyPost_ret (v := .tuple #[r, vd]) (by simp only [results, Tryd.results56]; go_simp) rfl ⟨_, rfl, hr, hb1⟩
/-- two naturals whose fraction is N / D times 2^n -/
theorem shifted_v (n : Int) {N D : Nat} {vn vd : Value} {w : World} (h : Nt 2001 N vn w) (h' : Nt 2001 D vd w) (h1 : (bl N : Int) + n ≤ 127000) (h2 : (bl D : Int) - n ≤ 127000) :
    Calls Tryd.prog 56 #[vn, vd, .int .i64 n] w fun e w' => ∃ a b, e = .returned (.tuple #[a, b]) ∧ Nt 2001 (N * 2 ^ n.toNat) a w' ∧ Nt 2001 (D * 2 ^ (-n).toNat) b w' ∧ Below w.heap.size w w' := by
  by_cases hn : n < 0
  · have hm : -n = (((-n).toNat : Nat) : Int) := by omega
    refine (shifted_neg n (-n).toNat vn vd (D * 2 ^ (-n).toNat) w hn hm (by omega) (nshl_v (-n).toNat (by decide) h' (by omega))).mono fun e w' ⟨r, e1, e2, e3⟩ => ⟨_, _, e1, ?_, e2.nt, e3⟩
    rw [show n.toNat = 0 by omega, Nat.pow_zero, Nat.mul_one]
    exact h.next e3
  · have c := nshl_v (w := w) n.toNat (by decide) h (by omega)
    rw [show ((n.toNat : Nat) : Int) = n by omega] at c
    refine (shifted_pos n vn vd (N * 2 ^ n.toNat) w (by omega) c).mono fun e w' ⟨r, e1, e2, e3⟩ => ⟨_, _, e1, e2.nt, ?_, e3⟩
    rw [show (-n).toNat = 0 by omega, Nat.pow_zero, Nat.mul_one]
    exact h'.next e3
/-- the place of the highest bit of a fraction -/
def ld (N D : Nat) : Int := let p := (bl N : Int) - bl D; if N * 2 ^ (-p).toNat < D * 2 ^ p.toNat then p - 1 else p
section
variable (vn vd : Value) (LN LD s : Int) (w : World) (hLN : 0 ≤ LN ∧ LN ≤ 60000) (hLD : 0 ≤ LD ∧ LD ≤ 60000)
  (c26 : ∀ W, Below w.heap.size w W → Calls Tryd.prog 33 #[vn] W fun e w' => e = .returned (.int .i64 LN) ∧ W = w')
  (c26d : ∀ W, Below w.heap.size w W → Calls Tryd.prog 33 #[vd] W fun e w' => e = .returned (.int .i64 LD) ∧ W = w')
  (c57 : ∀ n : Int, n = -(LN - LD) → Calls Tryd.prog 56 #[vn, vd, .int .i64 n] w fun e w' => ∃ va vb, e = .returned (.tuple #[va, vb]) ∧ (∀ W, Below w'.heap.size w' W → Calls Tryd.prog 37 #[va, vb] W fun e w'' => e = .returned (.int .i64 s) ∧ Below W.heap.size W w'') ∧ Below w.heap.size w w')
include hLN hLD c26 c26d c57
set_option maxHeartbeats 400000 in
theorem lead_l (h : s < 0) : Calls Tryd.prog 54 #[vn, vd] w fun e w' => e = .returned (.int .i64 (LN - LD - 1)) ∧ Below w.heap.size w w' := by
  go_enter Tryd.func54, Tryd.ntmps54
  go_wp2_with (first
    | (go_at_call_of 33 vn; refine (c26 _ bgo).mono ?_; rintro e w1 ⟨rfl, rfl⟩)
    | (go_at_call_of 33 vd; refine (c26d _ bgo).mono ?_; rintro e w1 ⟨rfl, rfl⟩)
    | (go_at_call 56; refine (c57 _ (by omega)).mono ?_; rintro e w2 ⟨va, vb, rfl, c58, hb2⟩)
    | (go_at_call 37; refine (c58 _ (Below.refl _ _)).mono ?_; rintro e w3 ⟨rfl, hb3⟩; have hA3 := bnx (w0 := w) hb2 hb3))
  go_ret
  exact ⟨rfl, bgo⟩
set_option maxHeartbeats 400000 in
theorem lead_g (h : ¬ s < 0) : Calls Tryd.prog 54 #[vn, vd] w fun e w' => e = .returned (.int .i64 (LN - LD)) ∧ Below w.heap.size w w' := by
  go_enter Tryd.func54, Tryd.ntmps54
  go_wp2_with (first
    | (go_at_call_of 33 vn; refine (c26 _ bgo).mono ?_; rintro e w1 ⟨rfl, rfl⟩)
    | (go_at_call_of 33 vd; refine (c26d _ bgo).mono ?_; rintro e w1 ⟨rfl, rfl⟩)
    | (go_at_call 56; refine (c57 _ (by omega)).mono ?_; rintro e w2 ⟨va, vb, rfl, c58, hb2⟩)
    | (go_at_call 37; refine (c58 _ (Below.refl _ _)).mono ?_; rintro e w3 ⟨rfl, hb3⟩; have hA3 := bnx (w0 := w) hb2 hb3))
  go_ret
  exact ⟨rfl, bgo⟩
end
theorem leading_v {N D : Nat} {vn vd : Value} {w : World} (h : Nt 2001 N vn w) (h' : Nt 2001 D vd w) (h1 : bl N ≤ 51200) (h2 : bl D ≤ 51200) :
    Calls Tryd.prog 54 #[vn, vd] w fun e w' => e = .returned (.int .i64 (ld N D)) ∧ Below w.heap.size w w' := by
  have c26 := fun W (hb : Below w.heap.size w W) => nlen_v (by decide) (h.next hb)
  have c26d := fun W (hb : Below w.heap.size w W) => nlen_v (by decide) (h'.next hb)
  have c57 := shifted_v (w := w) ((bl D : Int) - bl N) h h' (by omega) (by omega)
  have c57' : Calls Tryd.prog 56 #[vn, vd, .int .i64 ((bl D : Int) - bl N)] w fun e w' => ∃ va vb, e = .returned (.tuple #[va, vb]) ∧ (∀ W, Below w'.heap.size w' W → Calls Tryd.prog 37 #[va, vb] W fun e w'' => e = .returned (.int .i64 (sgn ((N * 2 ^ (-((bl N : Int) - bl D)).toNat : Nat) : Int) ((D * 2 ^ ((bl N : Int) - bl D).toNat : Nat) : Int))) ∧ Below W.heap.size W w'') ∧ Below w.heap.size w w' := by
    refine c57.mono fun e w' ⟨a, b, e1, e2, e3, e4⟩ => ⟨a, b, e1, fun W hb => ?_, e4⟩
    rw [show (bl D : Int) - bl N = -((bl N : Int) - bl D) by omega] at e2 e3
    rw [Int.neg_neg] at e3
    exact ncmp_v (by decide) (by decide) (e2.next hb) (e3.next hb)
  have c57n := fun (n : Int) (hn : n = -((bl N : Int) - bl D)) => (show n = (bl D : Int) - bl N by omega) ▸ c57'
  unfold ld
  dsimp only
  rcases sgn_ways ((N * 2 ^ (-((bl N : Int) - bl D)).toNat : Nat) : Int) ((D * 2 ^ ((bl N : Int) - bl D).toNat : Nat) : Int) with ⟨a, e⟩ | ⟨a, e⟩ | ⟨a, e⟩
  · rw [if_pos (by exact Int.ofNat_lt.1 a)]
    exact lead_l vn vd _ _ _ w (by omega) (by omega) c26 c26d c57n (by omega)
  · rw [if_neg (fun hh => by have := Int.ofNat_lt.2 hh; omega)]
    exact lead_g vn vd _ _ _ w (by omega) (by omega) c26 c26d c57n (by omega)
  · rw [if_neg (fun hh => by have := Int.ofNat_lt.2 hh; omega)]
    exact lead_g vn vd _ _ _ w (by omega) (by omega) c26 c26d c57n (by omega)
/-- N / D times 2^n, rounded to a whole number -/
def nrQ (N D : Nat) (n : Int) : Nat := N * 2 ^ n.toNat / (D * 2 ^ (-n).toNat)
def nrR (N D : Nat) (n : Int) : Nat := N * 2 ^ n.toNat % (D * 2 ^ (-n).toNat)
def nrF (d : Int) (s : Bool) (N D : Nat) (n : Int) : Bool := faB d s (decide (nrQ N D n % 2 = 1)) (nrR N D n) (D * 2 ^ (-n).toNat)
def nrC (d : Int) (s : Bool) (N D : Nat) (n : Int) : Nat := if nrF d s N D n then nrQ N D n + 1 else nrQ N D n
/-- N / D times 2^n, rounded: shifted, then choice's Whole -/
theorem near_sv (d n : Int) (s : Bool) {N D : Nat} {vn vd : Value} {w : World} (h : Nt 2001 N vn w) (h' : Nt 2001 D vd w) (hD : D ≠ 0) (h1 : (bl N : Int) + n ≤ 127000) (h2 : (bl D : Int) - n ≤ 127000) (h3 : bl N ≤ 127000) (h4 : bl D ≤ 127000) :
    Calls Tryd.prog 56 #[vn, vd, .int .i64 n] w fun e w' => ∃ va vb, e = .returned (.tuple #[va, vb]) ∧ Below w.heap.size w w' ∧ (Calls Tryd.prog 57 #[.int .i64 d, .bool s, va, vb] w' fun e w'' => ∃ v, e = .returned (.tuple #[v, .bool (decide (nrR N D n = 0))]) ∧ Nz 2003 (nrC d s N D n) v w'' ∧ Below w'.heap.size w' w'') := by
  have hpos : D * 2 ^ (-n).toNat ≠ 0 := Nat.ne_of_gt (Nat.mul_pos (by omega) (Nat.two_pow_pos _))
  have hbA : bl (N * 2 ^ n.toNat) ≤ 128000 := by
    rw [bl_le]
    have := bl_le.1 (Nat.le_refl (bl N))
    calc N * 2 ^ n.toNat < 2 ^ bl N * 2 ^ n.toNat := Nat.mul_lt_mul_of_pos_right this (Nat.two_pow_pos _)
      _ = 2 ^ (bl N + n.toNat) := by rw [Nat.pow_add]
      _ ≤ 2 ^ 128000 := Nat.pow_le_pow_right (by decide) (by omega)
  have hbB : bl (D * 2 ^ (-n).toNat) ≤ 128000 := by
    rw [bl_le]
    have := bl_le.1 (Nat.le_refl (bl D))
    calc D * 2 ^ (-n).toNat < 2 ^ bl D * 2 ^ (-n).toNat := Nat.mul_lt_mul_of_pos_right this (Nat.two_pow_pos _)
      _ = 2 ^ (bl D + (-n).toNat) := by rw [Nat.pow_add]
      _ ≤ 2 ^ 128000 := Nat.pow_le_pow_right (by decide) (by omega)
  exact (shifted_v n h h' h1 h2).mono fun e w' ⟨a, b, e1, e2, e3, e4⟩ => ⟨a, b, e1, e4, whole_cv d s e2 e3 hpos hbA hbB⟩
end
end Go.Proofs.YtpemdcnneabbfaaDoor

namespace Go.Proofs.YtpemdcnneabbfaaDoor

theorem sc1 (a : Nat) (n : Int) (K : Nat) (h : 0 ≤ (K : Int) + n) : a * 2 ^ n.toNat * 2 ^ K = a * 2 ^ ((K : Int) + n).toNat * 2 ^ (-n).toNat := by
  have : n.toNat + K = ((K : Int) + n).toNat + (-n).toNat := by omega
  rw [Nat.mul_assoc, ← Nat.pow_add, Nat.mul_assoc, ← Nat.pow_add, this]
/-- a times 2^n against b, all exponents raised by K -/
theorem cmp_sc (a b : Nat) (n : Int) (K : Nat) (h : 0 ≤ (K : Int) + n) : a * 2 ^ n.toNat < b * 2 ^ (-n).toNat ↔ a * 2 ^ ((K : Int) + n).toNat < b * 2 ^ K := by
  have e := sc1 a n K h
  have p := Nat.two_pow_pos K
  have p2 := Nat.two_pow_pos (-n).toNat
  constructor
  · intro hlt
    have := Nat.mul_lt_mul_of_pos_right hlt p
    rw [e, Nat.mul_right_comm b] at this
    exact Nat.lt_of_mul_lt_mul_right this
  · intro hlt
    have := Nat.mul_lt_mul_of_pos_right hlt p2
    rw [← e, Nat.mul_right_comm b] at this
    exact Nat.lt_of_mul_lt_mul_right this
theorem bl_bd {V : Nat} (h : V ≠ 0) : 2 ^ (bl V - 1) ≤ V ∧ V < 2 ^ bl V ∧ 1 ≤ bl V := by
  have h0 : bl V ≠ 0 := fun e => h (bl_zero.1 e)
  exact ⟨bl_ge.1 (by omega), bl_le.1 (Nat.le_refl _), by omega⟩
theorem ld_bd {N D : Nat} (hN : N ≠ 0) (hD : D ≠ 0) (K : Nat) (hK : (bl D : Int) + 1 ≤ K) :
    D * 2 ^ ((K : Int) + ld N D).toNat ≤ N * 2 ^ K ∧ N * 2 ^ K < D * 2 ^ ((K : Int) + ld N D + 1).toNat := by
  obtain ⟨n1, n2, n3⟩ := bl_bd hN
  obtain ⟨d1, d2, d3⟩ := bl_bd hD
  have pK := Nat.two_pow_pos K
  obtain ⟨K', hK'⟩ : ∃ K' : Nat, (K' : Int) = (K : Int) + ((bl N : Int) - bl D) := ⟨((K : Int) + ((bl N : Int) - bl D)).toNat, by omega⟩
  have key := cmp_sc N D (-((bl N : Int) - bl D)) K' (by omega)
  rw [Int.neg_neg, show ((K' : Int) + -((bl N : Int) - bl D)).toNat = K by omega] at key
  unfold ld
  dsimp only
  by_cases hc : N * 2 ^ (-((bl N : Int) - bl D)).toNat < D * 2 ^ ((bl N : Int) - bl D).toNat
  · rw [if_pos hc]
    have h1 := key.1 hc
    refine ⟨?_, ?_⟩
    · rw [show ((K : Int) + ((bl N : Int) - bl D - 1)).toNat = K' - 1 by omega]
      have a1 : D * 2 ^ (K' - 1) ≤ 2 ^ bl D * 2 ^ (K' - 1) := Nat.mul_le_mul_right _ (Nat.le_of_lt d2)
      have a2 : 2 ^ (bl N - 1) * 2 ^ K ≤ N * 2 ^ K := Nat.mul_le_mul_right _ n1
      rw [← Nat.pow_add] at a1 a2
      rw [show bl D + (K' - 1) = bl N - 1 + K by omega] at a1
      exact Nat.le_trans a1 a2
    · rw [show ((K : Int) + ((bl N : Int) - bl D - 1) + 1).toNat = K' by omega]
      exact h1
  · rw [if_neg hc]
    have h1 : D * 2 ^ K' ≤ N * 2 ^ K := Nat.le_of_not_lt fun h => hc (key.2 h)
    refine ⟨?_, ?_⟩
    · rw [show ((K : Int) + ((bl N : Int) - bl D)).toNat = K' by omega]
      exact h1
    · rw [show ((K : Int) + ((bl N : Int) - bl D) + 1).toNat = K' + 1 by omega]
      have a1 : N * 2 ^ K < 2 ^ bl N * 2 ^ K := Nat.mul_lt_mul_of_pos_right n2 pK
      have a2 : 2 ^ (bl D - 1) * 2 ^ (K' + 1) ≤ D * 2 ^ (K' + 1) := Nat.mul_le_mul_right _ d1
      rw [← Nat.pow_add] at a1 a2
      rw [show bl D - 1 + (K' + 1) = bl N + K by omega] at a2
      exact Nat.lt_of_lt_of_le a1 a2
theorem nrQ_lt {N D : Nat} (hN : N ≠ 0) (hD : D ≠ 0) {n : Int} {f : Nat} (h : ld N D + n ≤ f) : nrQ N D n < 2 ^ (f + 1) := by
  unfold nrQ
  apply Nat.div_lt_of_lt_mul
  obtain ⟨K, hK⟩ : ∃ K : Nat, K = bl D + 1 + n.natAbs := ⟨_, rfl⟩
  obtain ⟨K1, hK1⟩ : ∃ K1 : Nat, (K1 : Int) = (K : Int) + n := ⟨((K : Int) + n).toNat, by omega⟩
  have key := cmp_sc N (D * 2 ^ (f + 1)) n K (by omega)
  rw [show ((K : Int) + n).toNat = K1 by omega] at key
  have hb := (ld_bd hN hD K1 (by omega)).2
  have hle : D * 2 ^ ((K1 : Int) + ld N D + 1).toNat ≤ D * 2 ^ (f + 1) * 2 ^ K := by
    rw [Nat.mul_assoc, ← Nat.pow_add]
    exact Nat.mul_le_mul_left _ (Nat.pow_le_pow_right (by decide) (by omega))
  have := key.2 (Nat.lt_of_lt_of_le hb hle)
  rw [Nat.mul_right_comm] at this
  exact this
theorem nrQ_ge {N D : Nat} (hN : N ≠ 0) (hD : D ≠ 0) {n : Int} {f : Nat} (h : ld N D + n = f) : 2 ^ f ≤ nrQ N D n := by
  unfold nrQ
  have hpos : 0 < D * 2 ^ (-n).toNat := Nat.mul_pos (by omega) (Nat.two_pow_pos _)
  rw [Nat.le_div_iff_mul_le hpos]
  apply Nat.le_of_not_lt
  intro hlt
  obtain ⟨K, hK⟩ : ∃ K : Nat, K = bl D + 1 + n.natAbs := ⟨_, rfl⟩
  obtain ⟨K1, hK1⟩ : ∃ K1 : Nat, (K1 : Int) = (K : Int) + n := ⟨((K : Int) + n).toNat, by omega⟩
  have key := cmp_sc N (D * 2 ^ f) n K (by omega)
  rw [show ((K : Int) + n).toNat = K1 by omega] at key
  have hb := (ld_bd hN hD K1 (by omega)).1
  rw [show 2 ^ f * (D * 2 ^ (-n).toNat) = D * 2 ^ f * 2 ^ (-n).toNat by rw [← Nat.mul_assoc, Nat.mul_comm (2 ^ f) D]] at hlt
  have h2 := key.1 hlt
  rw [Nat.mul_assoc, ← Nat.pow_add, show f + K = ((K1 : Int) + ld N D).toNat by omega] at h2
  omega
end Go.Proofs.YtpemdcnneabbfaaDoor
