/-
  Texts that the proof leans on, joined: Sd, Bv, Bw.
-/
import Derived.Test.YtplocajjfoiklaaGreatDoorR27
import Derived.Test.YtplocajjfoiklaaGreatDoorR24
import Derived.Deep.Cut
import Derived.Deep.CutRange
import Derived.Test.YtplocajjfoiklaaGreatDoorR1
import Derived.Test.YtplocajjfoiklaaGreatDoorR25
set_option maxHeartbeats 8000000
set_option linter.unusedVariables false
set_option linter.unusedSectionVars false
set_option linter.unusedSimpArgs false
set_option maxRecDepth 20000
namespace Go.Proofs.YtplocajjfoiklaaGreatDoor
open Go.RowKit
section
theorem nt_one {W : World} {g V : Nat} {vi : Int} (hg : g = W.heap.size) (hv : vi = (V : Int)) (hb : V < 18446744073709551616) : Nt 1 V (.slice (some ⟨g, 0, none⟩) 1 1) (W.alloc (.cells #[.int .u64 vi] 22)) := by
 subst hg hv
 exact ⟨_, 1, 1, oneW V, rfl, Nat.le_refl _, num_one W V (by omega), val_one1 V⟩
theorem Nz.more' {K V : Nat} {v : Value} {w w' : World} (h : Nz K V v w) (hb : Below w.heap.size w w') : Nz (K + 2) V v w' := by
 obtain ⟨a, k, cap, z, h1, h2, h3, h4, h5⟩ := h
 exact ⟨a, k, cap, z, h1, by omega, h3.next hb, h4, h5⟩
theorem shifted_neg (n : Int) (m : Nat) (vn vd : Value) (B : Nat) (w : World) (hn : n < 0) (hm : -n = (m : Int)) (hm2 : m < 1000000)
  (c88 : Calls Tryz.prog 179 #[vd, .int .i64 (m : Int)] w fun e w' => ∃ r, e = .returned (.tuple #[r, .int .i64 0]) ∧ Nz 2001 B r w' ∧ Below w.heap.size w w') :
  Calls Tryz.prog 130 #[vn, vd, .int .i64 n] w fun e w' => ∃ r, e = .returned (.tuple #[vn, r]) ∧ Nz 2001 B r w' ∧ Below w.heap.size w w' := by
 obtain rfl : n = -(m : Int) := by omega
 clear hm
 have hm1 : 0 < m := by omega
 go_enter Tryz.func130, Tryz.ntmps130
 go_wp2_with (go_at_call 179; refine c88.mono ?_; rintro e w1 ⟨r, rfl, hr, hb1⟩)
 exact bodyPost_ret (v := .tuple #[vn, r]) (by simp only [results, Tryz.results130]; go_simp) rfl ⟨_, rfl, hr, hb1⟩
theorem shifted_pos (n : Int) (vn vd : Value) (A : Nat) (w : World) (hn : 0 ≤ n)
  (c88 : Calls Tryz.prog 179 #[vn, .int .i64 n] w fun e w' => ∃ r, e = .returned (.tuple #[r, .int .i64 0]) ∧ Nz 2001 A r w' ∧ Below w.heap.size w w') :
  Calls Tryz.prog 130 #[vn, vd, .int .i64 n] w fun e w' => ∃ r, e = .returned (.tuple #[r, vd]) ∧ Nz 2001 A r w' ∧ Below w.heap.size w w' := by
 have hn' : ¬ n < 0 := by omega
 go_enter Tryz.func130, Tryz.ntmps130
 go_wp2_with (go_at_call 179; refine c88.mono ?_; rintro e w1 ⟨r, rfl, hr, hb1⟩)
 exact bodyPost_ret (v := .tuple #[r, vd]) (by simp only [results, Tryz.results130]; go_simp) rfl ⟨_, rfl, hr, hb1⟩
theorem shifted_v (n : Int) {N D : Nat} {vn vd : Value} {w : World} (h : Nt 2001 N vn w) (h' : Nt 2001 D vd w) (h1 : (bl N : Int) + n ≤ 127000) (h2 : (bl D : Int) - n ≤ 127000) :
  Calls Tryz.prog 130 #[vn, vd, .int .i64 n] w fun e w' => ∃ a b, e = .returned (.tuple #[a, b]) ∧ Nt 2001 (N * 2 ^ n.toNat) a w' ∧ Nt 2001 (D * 2 ^ (-n).toNat) b w' ∧ Below w.heap.size w w' := by
 by_cases hn : n < 0
 ·have hm : -n = (((-n).toNat : Nat) : Int) := by omega
  refine (shifted_neg n (-n).toNat vn vd (D * 2 ^ (-n).toNat) w hn hm (by omega) (nshl_v (-n).toNat (by decide) h' (by omega))).mono fun e w' ⟨r, e1, e2, e3⟩ => ⟨_, _, e1, ?_, e2.nt, e3⟩
  rw [show n.toNat = 0 by omega, Nat.pow_zero, Nat.mul_one]
  exact h.next e3
 ·have c := nshl_v (w := w) n.toNat (by decide) h (by omega)
  rw [show ((n.toNat : Nat) : Int) = n by omega] at c
  refine (shifted_pos n vn vd (N * 2 ^ n.toNat) w (by omega) c).mono fun e w' ⟨r, e1, e2, e3⟩ => ⟨_, _, e1, e2.nt, ?_, e3⟩
  rw [show (-n).toNat = 0 by omega, Nat.pow_zero, Nat.mul_one]
  exact h'.next e3
def ld (N D : Nat) : Int := let p := (bl N : Int) - bl D; if N * 2 ^ (-p).toNat < D * 2 ^ p.toNat then p - 1 else p
section
variable (vn vd : Value) (LN LD s : Int) (w : World) (hLN : 0 ≤ LN ∧ LN ≤ 60000) (hLD : 0 ≤ LD ∧ LD ≤ 60000)
 (c26 : ∀ W, Below w.heap.size w W → Calls Tryz.prog 77 #[vn] W fun e w' => e = .returned (.int .i64 LN) ∧ W = w')
 (c26d : ∀ W, Below w.heap.size w W → Calls Tryz.prog 77 #[vd] W fun e w' => e = .returned (.int .i64 LD) ∧ W = w')
 (c57 : ∀ n : Int, n = -(LN - LD) → Calls Tryz.prog 130 #[vn, vd, .int .i64 n] w fun e w' => ∃ va vb, e = .returned (.tuple #[va, vb]) ∧ (∀ W, Below w'.heap.size w' W → Calls Tryz.prog 131 #[va, vb] W fun e w'' => e = .returned (.int .i64 s) ∧ Below W.heap.size W w'') ∧ Below w.heap.size w w')
include hLN hLD c26 c26d c57
theorem lead_l (h : s < 0) : Calls Tryz.prog 79 #[vn, vd] w fun e w' => e = .returned (.int .i64 (LN - LD - 1)) ∧ Below w.heap.size w w' := by
 go_enter Tryz.func79, Tryz.ntmps79
 go_wp2_with (first
  | (go_at_call_of 77 vn; refine (c26 _ bgo).mono ?_; rintro e w1 ⟨rfl, rfl⟩)
  | (go_at_call_of 77 vd; refine (c26d _ bgo).mono ?_; rintro e w1 ⟨rfl, rfl⟩)
  | (go_at_call 130; refine (c57 _ (by omega)).mono ?_; rintro e w2 ⟨va, vb, rfl, c58, hb2⟩)
  | (go_at_call 131; refine (c58 _ (Below.refl _ _)).mono ?_; rintro e w3 ⟨rfl, hb3⟩; have hA3 := bnx (w0 := w) hb2 hb3))
 go_ret
 exact ⟨rfl, bgo⟩
theorem lead_g (h : ¬ s < 0) : Calls Tryz.prog 79 #[vn, vd] w fun e w' => e = .returned (.int .i64 (LN - LD)) ∧ Below w.heap.size w w' := by
 go_enter Tryz.func79, Tryz.ntmps79
 go_wp2_with (first
  | (go_at_call_of 77 vn; refine (c26 _ bgo).mono ?_; rintro e w1 ⟨rfl, rfl⟩)
  | (go_at_call_of 77 vd; refine (c26d _ bgo).mono ?_; rintro e w1 ⟨rfl, rfl⟩)
  | (go_at_call 130; refine (c57 _ (by omega)).mono ?_; rintro e w2 ⟨va, vb, rfl, c58, hb2⟩)
  | (go_at_call 131; refine (c58 _ (Below.refl _ _)).mono ?_; rintro e w3 ⟨rfl, hb3⟩; have hA3 := bnx (w0 := w) hb2 hb3))
 go_ret
 exact ⟨rfl, bgo⟩
end
theorem leading_v {N D : Nat} {vn vd : Value} {w : World} (h : Nt 2001 N vn w) (h' : Nt 2001 D vd w) (h1 : bl N ≤ 51200) (h2 : bl D ≤ 51200) :
  Calls Tryz.prog 79 #[vn, vd] w fun e w' => e = .returned (.int .i64 (ld N D)) ∧ Below w.heap.size w w' := by
 have c26 := fun W (hb : Below w.heap.size w W) => nlen_v (by decide) (h.next hb)
 have c26d := fun W (hb : Below w.heap.size w W) => nlen_v (by decide) (h'.next hb)
 have c57 := shifted_v (w := w) ((bl D : Int) - bl N) h h' (by omega) (by omega)
 have c57' : Calls Tryz.prog 130 #[vn, vd, .int .i64 ((bl D : Int) - bl N)] w fun e w' => ∃ va vb, e = .returned (.tuple #[va, vb]) ∧ (∀ W, Below w'.heap.size w' W → Calls Tryz.prog 131 #[va, vb] W fun e w'' => e = .returned (.int .i64 (sgn ((N * 2 ^ (-((bl N : Int) - bl D)).toNat : Nat) : Int) ((D * 2 ^ ((bl N : Int) - bl D).toNat : Nat) : Int))) ∧ Below W.heap.size W w'') ∧ Below w.heap.size w w' := by
  refine c57.mono fun e w' ⟨a, b, e1, e2, e3, e4⟩ => ⟨a, b, e1, fun W hb => ?_, e4⟩
  rw [show (bl D : Int) - bl N = -((bl N : Int) - bl D) by omega] at e2 e3
  rw [Int.neg_neg] at e3
  exact ncmp_v (by decide) (by decide) (e2.next hb) (e3.next hb)
 have c57n := fun (n : Int) (hn : n = -((bl N : Int) - bl D)) => (show n = (bl D : Int) - bl N by omega) ▸ c57'
 unfold ld
 dsimp only
 rcases sgn_ways ((N * 2 ^ (-((bl N : Int) - bl D)).toNat : Nat) : Int) ((D * 2 ^ ((bl N : Int) - bl D).toNat : Nat) : Int) with ⟨a, e⟩ | ⟨a, e⟩ | ⟨a, e⟩
 ·rw [if_pos (by exact Int.ofNat_lt.1 a)]
  exact lead_l vn vd _ _ _ w (by omega) (by omega) c26 c26d c57n (by omega)
 ·rw [if_neg (fun hh => by have := Int.ofNat_lt.2 hh; omega)]
  exact lead_g vn vd _ _ _ w (by omega) (by omega) c26 c26d c57n (by omega)
 ·rw [if_neg (fun hh => by have := Int.ofNat_lt.2 hh; omega)]
  exact lead_g vn vd _ _ _ w (by omega) (by omega) c26 c26d c57n (by omega)
def nrQ (N D : Nat) (n : Int) : Nat := N * 2 ^ n.toNat / (D * 2 ^ (-n).toNat)
def nrR (N D : Nat) (n : Int) : Nat := N * 2 ^ n.toNat % (D * 2 ^ (-n).toNat)
def nrF (d : Int) (s : Bool) (N D : Nat) (n : Int) : Bool := faB d s (decide (nrQ N D n % 2 = 1)) (nrR N D n) (D * 2 ^ (-n).toNat)
def nrC (d : Int) (s : Bool) (N D : Nat) (n : Int) : Nat := if nrF d s N D n then nrQ N D n + 1 else nrQ N D n
section
variable (d n : Int) (s odd far : Bool) (vn vd : Value) (Q R B : Nat) (w : World)
 (c57 : Calls Tryz.prog 130 #[vn, vd, .int .i64 n] w fun e w' => ∃ va vb, e = .returned (.tuple #[va, vb]) ∧ Nt 2001 B vb w' ∧ Below w.heap.size w w' ∧
  (∀ W, Below w'.heap.size w' W → Calls Tryz.prog 132 #[va, vb] W fun e w'' => ∃ q r, e = .returned (.tuple #[q, r, .int .i64 0]) ∧ Nz 2001 Q q w'' ∧ Nz 2001 R r w'' ∧ Below W.heap.size W w''))
 (c60 : ∀ W vr vb, Nt 2001 R vr W → Nt 2001 B vb W → Calls Tryz.prog 133 #[.int .i64 d, .bool s, .bool odd, vr, vb] W fun e w' => e = .returned (.bool far) ∧ Below W.heap.size W w')
 (c26 : ∀ W vr, Nt 2001 R vr W → Calls Tryz.prog 77 #[vr] W fun e w' => e = .returned (.int .i64 (bl R : Int)) ∧ W = w')
 (c61 : ∀ W q v, Nt 2001 Q q W → Nt 1 1 v W → Calls Tryz.prog 134 #[q, v] W fun e w' => ∃ r, e = .returned r ∧ Nz 2003 (Q + 1) r w' ∧ Below W.heap.size W w')
 (hodd : ∀ k z, Words z → val z k = (Q : Int) → 0 < k → (bits BinOp.and IntKind.u64 (z 0) 1 == 1) = odd)
 (hodd0 : Q = 0 → odd = false)
include c57 c60 c26 c61 hodd hodd0
theorem nearby_w : Calls Tryz.prog 81 #[.int .i64 d, .bool s, vn, vd, .int .i64 n] w fun e w' => ∃ v, e = .returned (.tuple #[v, .bool (((bl R : Nat) : Int) == 0)]) ∧ Nz 2003 (if far then Q + 1 else Q) v w' ∧ Below w.heap.size w w' := by
 go_enter Tryz.func81, Tryz.ntmps81
 go_upto_region 3 with (first
  | (go_at_call 130; refine c57.mono ?_; rintro e w1 ⟨va, vb, rfl, hvb, hb1, c59⟩)
  | (go_at_call 132; refine (c59 _ (Below.refl _ _)).mono ?_; rintro e w2 ⟨q, r, rfl, hq, hr, hb2⟩))
 replace hvb := hvb.next hb2
 have hA2 := bnx hb1 hb2
 have hq' := hq
 obtain ⟨aq, kq, cq, zq, rfl, hkq, hNq, hvq, hsq⟩ := hq
 go_cut [14] from 15 (fun o wc => o = .bool odd ∧ wc = w2)
 case first =>
  rcases Nat.eq_zero_or_pos kq with hk0 | hk0
  ·have h0 : Q = 0 := by
    subst hk0
    have : val zq 0 = 0 := rfl
    omega
   have ho := hodd0 h0
   subst ho hk0
   clear hodd hodd0 c57 c59 c60 c61 c26
   go_wp2
   go_meet
   exact ⟨rfl, rfl⟩
  ·have ho := hodd kq zq hNq.2.2.1 hvq hk0
   have hki : (0 : Int) < kq := by omega
   have hz0 := hNq.2.2.1 0
   obtain ⟨n1, n2, n3, n4, n5⟩ := hNq
   rcases n5 with ⟨_, n6⟩ | ⟨b, off, rfl, n7, n8⟩
   ·omega
   ·have hc0 := n8 0 hk0
    rw [Nat.add_zero] at hc0
    subst ho
    clear hodd hodd0 c57 c59 c60 c61 c26
    go_wp2
    go_meet
    exact ⟨rfl, rfl⟩
 case rest =>
  obtain ⟨rfl, rfl⟩ := hcut
  clear hNq hvq hsq hodd hodd0 c57 c59
  cases far with
  | false =>
   go_wp2_with (first
    | (go_at_call 133; refine (c60 _ _ _ hr.nt hvb).mono ?_; rintro e w3 ⟨rfl, hb3⟩)
    | (go_at_call 77; refine (c26 _ _ (hr.nt.next hb3)).mono ?_; rintro e w4 ⟨rfl, rfl⟩))
   exact bodyPost_ret (v := .tuple #[_, _]) (by simp only [results, Tryz.results81]; go_simp) rfl ⟨_, rfl, hq'.more' hb3, bnx hA2 hb3⟩
  | true =>
   go_wp2_with (first
    | (go_at_call 133; refine (c60 _ _ _ hr.nt hvb).mono ?_; rintro e w3 ⟨rfl, hb3⟩)
    | (go_at_call 134; refine (c61 _ _ _ (hq'.nt.next (bnx hb3 bgo)) (nt_one (by simp) rfl (by decide))).mono ?_; rintro e w4 ⟨v4, rfl, h4, hb4⟩; have hA4 : Below wc.heap.size wc w4 := bnx (bnx hb3 bgo) hb4)
    | (go_at_call 77; refine (c26 _ _ (hr.nt.next hA4)).mono ?_; rintro e w5 ⟨rfl, rfl⟩))
   exact bodyPost_ret (v := .tuple #[v4, _]) (by simp only [results, Tryz.results81]; go_simp) rfl ⟨_, rfl, h4, bnx hA2 hA4⟩
end
theorem nearby_v (d n : Int) (s : Bool) {N D : Nat} {vn vd : Value} {w : World} (h : Nt 2001 N vn w) (h' : Nt 2001 D vd w) (hD : D ≠ 0) (h1 : (bl N : Int) + n ≤ 127000) (h2 : (bl D : Int) - n ≤ 127000) (h3 : bl N ≤ 127000) (h4 : bl D ≤ 127000) :
  Calls Tryz.prog 81 #[.int .i64 d, .bool s, vn, vd, .int .i64 n] w fun e w' => ∃ v, e = .returned (.tuple #[v, .bool (decide (nrR N D n = 0))]) ∧ Nz 2003 (nrC d s N D n) v w' ∧ Below w.heap.size w w' := by
 have hpos : D * 2 ^ (-n).toNat ≠ 0 := Nat.ne_of_gt (Nat.mul_pos (by omega) (Nat.two_pow_pos _))
 have hbA : bl (N * 2 ^ n.toNat) ≤ 128000 := by
  rw [bl_le]
  have := bl_le.1 (Nat.le_refl (bl N))
  calc N * 2 ^ n.toNat < 2 ^ bl N * 2 ^ n.toNat := Nat.mul_lt_mul_of_pos_right this (Nat.two_pow_pos _)
   _ = 2 ^ (bl N + n.toNat) := by rw [Nat.pow_add]
   _ ≤ 2 ^ 128000 := Nat.pow_le_pow_right (by decide) (by omega)
 have hbB : bl (D * 2 ^ (-n).toNat) ≤ 128000 := by
  rw [bl_le]
  have := bl_le.1 (Nat.le_refl (bl D))
  calc D * 2 ^ (-n).toNat < 2 ^ bl D * 2 ^ (-n).toNat := Nat.mul_lt_mul_of_pos_right this (Nat.two_pow_pos _)
   _ = 2 ^ (bl D + (-n).toNat) := by rw [Nat.pow_add]
   _ ≤ 2 ^ 128000 := Nat.pow_le_pow_right (by decide) (by omega)
 have c57 : Calls Tryz.prog 130 #[vn, vd, .int .i64 n] w fun e w' => ∃ va vb, e = .returned (.tuple #[va, vb]) ∧ Nt 2001 (D * 2 ^ (-n).toNat) vb w' ∧ Below w.heap.size w w' ∧
  (∀ W, Below w'.heap.size w' W → Calls Tryz.prog 132 #[va, vb] W fun e w'' => ∃ q r, e = .returned (.tuple #[q, r, .int .i64 0]) ∧ Nz 2001 (nrQ N D n) q w'' ∧ Nz 2001 (nrR N D n) r w'' ∧ Below W.heap.size W w'') := by
  refine (shifted_v n h h' h1 h2).mono fun e w' ⟨a, b, e1, e2, e3, e4⟩ => ⟨a, b, e1, e3, e4, fun W hb => ?_⟩
  exact ndiv_v (by decide) (by decide) (e2.next hb) (e3.next hb) hbA hbB hpos
 refine (nearby_w d n s (decide (nrQ N D n % 2 = 1)) (nrF d s N D n) vn vd (nrQ N D n) (nrR N D n) (D * 2 ^ (-n).toNat) w c57 (fun W vr vb a b => farther_v d s _ (by decide) (by decide) a b) (fun W vr a => nlen_v (by decide) a) (fun W q v a b => nadd_v (by decide) (by decide) a b) ?_ ?_).mono ?_
 ·intro k z hz hv hk
  have hb := hz 0
  rw [show (1 : Int) = 2 ^ 1 - 1 by decide, and_mask hb (by decide)]
  obtain ⟨k', rfl⟩ : ∃ k', k = 1 + k' := ⟨k - 1, by omega⟩
  have hs := val_split z 1 k'
  rw [hv] at hs
  have h10 : val z 1 = z 0 := by show val z 0 + z 0 * 18446744073709551616 ^ 0 = z 0; simp [val]
  rw [h10, Int.pow_one] at hs
  rcases Nat.mod_two_eq_zero_or_one (nrQ N D n) with e | e
  ·rw [decide_eq_false (by omega)]
   rw [beq_eq_false_iff_ne]; omega
  ·rw [decide_eq_true e]
   rw [beq_iff_eq]; omega
 ·intro h0
  rw [h0]; rfl
 ·rintro e w' ⟨v, e1, e2, e3⟩
  refine ⟨v, ?_, e2, e3⟩
  rw [e1]
  congr 4
  have : (((bl (nrR N D n) : Nat) : Int) == 0) = decide (nrR N D n = 0) := by
   by_cases hz : nrR N D n = 0
   ·rw [hz]; rfl
   ·rw [decide_eq_false hz, beq_eq_false_iff_ne]
    have := mt bl_zero.1 hz
    omega
  rw [this]
end
def binN (n : Int) : Prop := 1 ≤ n ∧ n ≤ 6
instance (n : Int) : Decidable (binN n) := inferInstanceAs (Decidable (_ ∧ _))
def fN (n : Int) : Nat := (precN n - 1).toNat
def eN (n : Int) : Nat := (expN n).toNat
theorem bin_cases {n : Int} (h : binN n) : n = 1 ∨ n = 2 ∨ n = 3 ∨ n = 4 ∨ n = 5 ∨ n = 6 := by unfold binN at h; omega
theorem bin_fm {n : Int} (h : binN n) : Fm (fN n) (eN n) (leastN n) (mostN n) := by
 rcases bin_cases h with rfl | rfl | rfl | rfl | rfl | rfl <;> exact ⟨by decide, by decide, by decide, by decide, by decide, by decide, by decide, by decide⟩
theorem bin_fields {n : Int} (h : binN n) : okN n ∧ baseN n = 2 ∧ precN n = (fN n : Int) + 1 ∧ expN n = (eN n : Int) ∧ widthN n = ((fN n + eN n + 1 : Nat) : Int) ∧ payN n = (fN n : Int) - 1 := by
 rcases bin_cases h with rfl | rfl | rfl | rfl | rfl | rfl <;> exact ⟨by decide, by decide, by decide, by decide, by decide, by decide⟩
theorem not_bin {n : Int} (h : ¬ binN n) : (okN n ∧ baseN n = 10) ∨ ¬ okN n := by
 by_cases hk : okN n
 ·left
  refine ⟨hk, ?_⟩
  rcases okN_cases hk with rfl | rfl | rfl | rfl | rfl | rfl | rfl | rfl | rfl | rfl | rfl | rfl <;> first | rfl | exact absurd (by decide) h
 ·exact Or.inr hk
abbrev LZ : Value := .agg #[.int .i64 0, .int .i64 0, .int .i64 0, .int .i64 0]
theorem layoutOf_ok (n : Int) (w : World) (hT : Tab w) (h : binN n) :
  Calls Tryz.prog 109 #[.int .i64 n] w fun x w' => x = .returned (.tuple #[LV (fN n) (eN n) (leastN n) (mostN n), .int .i64 0]) ∧ Below w.heap.size w w' := by
 have c1 := fun w hT => ofv_any n w hT
 obtain ⟨hk, hb, hp, he, hw, hy⟩ := bin_fields h
 have hE : infoE n = 0 := if_pos hk
 have hF := bin_fm h
 have hf1 := hF.f240
 simp only [hE, hb, hp, he] at c1
 clear hE hb hp he hw hy hk hF
 go_enter Tryz.func109, Tryz.ntmps109
 go_wp2_with (go_at_call 32; refine (c1 _ (hT.alloc _)).mono ?_; rintro x w1 ⟨rfl, hb1⟩; obtain ⟨hc1, hf1, hz1_0, hl1_0, hA1, hs1⟩ := wz w hb1 w.heap.size; clear hb1)
 have hsm := cell_set_map
 exact bodyPost_ret (v := .tuple #[LV (fN n) (eN n) (leastN n) (mostN n), .int .i64 0]) (by simp only [results, Tryz.results109]; go_simp) rfl ⟨rfl, bgo⟩
theorem layoutOf_bad (n : Int) (w : World) (hT : Tab w) (h : ¬ binN n) :
  Calls Tryz.prog 109 #[.int .i64 n] w fun x w' => x = .returned (.tuple #[LZ, .int .i64 1]) ∧ Below w.heap.size w w' := by
 have c1 := fun w hT => ofv_any n w hT
 rcases not_bin h with ⟨hk, hb⟩ | hk
 ·have hE : infoE n = 0 := if_pos hk
  simp only [hE, hb] at c1
  clear hE hb hk h
  go_enter Tryz.func109, Tryz.ntmps109
  go_wp2_with (go_at_call 32; refine (c1 _ (hT.alloc _)).mono ?_; rintro x w1 ⟨rfl, hb1⟩; obtain ⟨hc1, hf1, hz1_0, hl1_0, hA1, hs1⟩ := wz w hb1 w.heap.size; clear hb1)
  have hsm := cell_set_map
  exact bodyPost_ret (v := .tuple #[LZ, .int .i64 1]) (by simp only [results, Tryz.results109]; go_simp) rfl ⟨rfl, bgo⟩
 ·have hE : infoE n = 1 := if_neg hk
  simp only [hE] at c1
  clear hE hk h
  go_enter Tryz.func109, Tryz.ntmps109
  go_wp2_with (go_at_call 32; refine (c1 _ (hT.alloc _)).mono ?_; rintro x w1 ⟨rfl, hb1⟩; obtain ⟨hc1, hf1, hz1_0, hl1_0, hA1, hs1⟩ := wz w hb1 w.heap.size; clear hb1)
  have hsm := cell_set_map
  exact bodyPost_ret (v := .tuple #[LZ, .int .i64 1]) (by simp only [results, Tryz.results109]; go_simp) rfl ⟨rfl, bgo⟩
def goodN (n : Int) (B : Nat) : Prop := binN n ∧ B < 2 ^ (fN n + eN n + 1)
instance (n : Int) (B : Nat) : Decidable (goodN n B) := inferInstanceAs (Decidable (_ ∧ _))
theorem A4_get (B : Nat) : ∀ i, i < 4 → (#[Value.int .u64 (W4 B 0), .int .u64 (W4 B 1), .int .u64 (W4 B 2), .int .u64 (W4 B 3)] : Array Value)[i]? = some (.int .u64 (W4 B i)) := fun i hi => by
 have : i = 0 ∨ i = 1 ∨ i = 2 ∨ i = 3 := by omega
 rcases this with rfl | rfl | rfl | rfl <;> rfl
theorem fits4 (n : Int) (B : Nat) (hB : B < 2 ^ 256) (w : World) (hT : Tab w) :
  Calls Tryz.prog 108 #[.int .i64 n, A4 B] w fun x w' => x = .returned (.bool (decide (okN n ∧ B < 2 ^ (widthN n).toNat))) ∧ Below w.heap.size w w' := by
 refine (fits_any n (W4 B) (W4_words B) _ (A4_get B) rfl w hT).mono ?_
 rintro x w' ⟨rfl, hb⟩
 refine ⟨?_, hb⟩
 have hwd := (fields_bounds n).2.1
 have e : (fitsP n (W4 B)) ↔ (okN n ∧ B < 2 ^ (widthN n).toNat) := by
  unfold fitsP
  rw [lenL_low]
  have := len4_le (k := (widthN n).toNat) hB
  rw [show (((widthN n).toNat : Nat) : Int) = widthN n by omega] at this
  rw [this]
 rw [decide_eq_decide.2 e]
theorem layoutFor_ok (n : Int) (B : Nat) (w : World) (hT : Tab w) (hB : B < 2 ^ 256) (h : goodN n B) :
  Calls Tryz.prog 48 #[.int .i64 n, A4 B] w fun x w' => x = .returned (.tuple #[LV (fN n) (eN n) (leastN n) (mostN n), .int .i64 0]) ∧ Below w.heap.size w w' := by
 have hF := bin_fields h.1
 have c42 := fun w hT => fits4 n B hB w hT
 rw [decide_eq_true (show okN n ∧ B < 2 ^ (widthN n).toNat from ⟨hF.1, by rw [hF.2.2.2.2.1, Int.toNat_natCast]; exact h.2⟩)] at c42
 have c31 := fun w hT => layoutOf_ok n w hT h.1
 clear hF h hB
 go_enter Tryz.func48, Tryz.ntmps48
 go_wp2_with (first
  | (go_at_call 108; refine (c42 _ ((hT.alloc _).alloc _)).mono ?_; rintro x w1 ⟨rfl, hb1⟩; obtain ⟨hc1, hf1, hz1_0, hl1_0, hA1, hs1⟩ := wz w hb1 w.heap.size; obtain ⟨hz1_1, hl1_1⟩ := zf hb1 (w.heap.size + 1); clear hb1)
  | (go_at_call 109; refine (c31 _ (hT.go hA1)).mono ?_; rintro x w2 ⟨rfl, hb2⟩; obtain ⟨hc2, hf2, hz2_0, hl2_0, hA2, hs2⟩ := wz w hb2 w.heap.size; obtain ⟨hz2_1, hl2_1⟩ := zf hb2 (w.heap.size + 1); clear hb2))
 have hsm := cell_set_map
 exact bodyPost_ret (v := .tuple #[LV (fN n) (eN n) (leastN n) (mostN n), .int .i64 0]) (by simp only [results, Tryz.results48]; go_simp) rfl ⟨rfl, bgo⟩
theorem layoutFor_bad (n : Int) (B : Nat) (w : World) (hT : Tab w) (hB : B < 2 ^ 256) (h : ¬ goodN n B) :
  Calls Tryz.prog 48 #[.int .i64 n, A4 B] w fun x w' => x = .returned (.tuple #[LZ, .int .i64 1]) ∧ Below w.heap.size w w' := by
 have c42 := fun w hT => fits4 n B hB w hT
 by_cases hf : okN n ∧ B < 2 ^ (widthN n).toNat
 ·rw [decide_eq_true hf] at c42
  have hnb : ¬ binN n := fun hb => h ⟨hb, by have := bin_fields hb; rw [this.2.2.2.2.1, Int.toNat_natCast] at hf; exact hf.2⟩
  have c31 := fun w hT => layoutOf_bad n w hT hnb
  clear h hB hf hnb
  go_enter Tryz.func48, Tryz.ntmps48
  go_wp2_with (first
   | (go_at_call 108; refine (c42 _ ((hT.alloc _).alloc _)).mono ?_; rintro x w1 ⟨rfl, hb1⟩; obtain ⟨hc1, hf1, hz1_0, hl1_0, hA1, hs1⟩ := wz w hb1 w.heap.size; obtain ⟨hz1_1, hl1_1⟩ := zf hb1 (w.heap.size + 1); clear hb1)
   | (go_at_call 109; refine (c31 _ (hT.go hA1)).mono ?_; rintro x w2 ⟨rfl, hb2⟩; obtain ⟨hc2, hf2, hz2_0, hl2_0, hA2, hs2⟩ := wz w hb2 w.heap.size; obtain ⟨hz2_1, hl2_1⟩ := zf hb2 (w.heap.size + 1); clear hb2))
  have hsm := cell_set_map
  exact bodyPost_ret (v := .tuple #[LZ, .int .i64 1]) (by simp only [results, Tryz.results48]; go_simp) rfl ⟨rfl, bgo⟩
 ·rw [decide_eq_false hf] at c42
  clear h hB hf
  go_enter Tryz.func48, Tryz.ntmps48
  go_wp2_with (go_at_call 108; refine (c42 _ ((hT.alloc _).alloc _)).mono ?_; rintro x w1 ⟨rfl, hb1⟩; obtain ⟨hc1, hf1, hz1_0, hl1_0, hA1, hs1⟩ := wz w hb1 w.heap.size; obtain ⟨hz1_1, hl1_1⟩ := zf hb1 (w.heap.size + 1); clear hb1)
  have hsm := cell_set_map
  exact bodyPost_ret (v := .tuple #[LZ, .int .i64 1]) (by simp only [results, Tryz.results48]; go_simp) rfl ⟨rfl, bgo⟩
section
def unp (f e : Nat) (l : Int) (B : Nat) : Dat :=
 if B / 2 ^ f % 2 ^ e = 2 ^ e - 1 then spc f (sgB f e B) (B % 2 ^ f)
 else if B / 2 ^ f % 2 ^ e = 0 then ⟨1, sgB f e B, false, l, B % 2 ^ f⟩
 else ⟨1, sgB f e B, false, l + ((B / 2 ^ f % 2 ^ e : Nat) - 1 : Int), B % 2 ^ f + 2 ^ f⟩
theorem unpack_bad (n : Int) (B : Nat) (w : World) (hT : Tab w) (hB : B < 2 ^ 256) (h : ¬ goodN n B) :
  Calls Tryz.prog 21 #[.int .i64 n, A4 B] w fun x w' => x = .returned (.tuple #[DV 0 false false 0 0, .int .i64 1]) ∧ Below w.heap.size w w' := by
 have c18 := fun w hT => layoutFor_bad n B w hT hB h
 unfold DV
 simp only [W4_zero]
 clear h hB
 go_enter Tryz.func21, Tryz.ntmps21
 go_wp2_with (go_at_call 48; refine (c18 _ ((hT.alloc _).alloc _)).mono ?_; rintro x w1 ⟨rfl, hb1⟩; obtain ⟨hc1, hf1, hz1_0, hl1_0, hA1, hs1⟩ := wz w hb1 w.heap.size; obtain ⟨hz1_1, hl1_1⟩ := zf hb1 (w.heap.size + 1); clear hb1)
 have hsm := cell_set_map
 exact bodyPost_ret (v := .tuple #[.agg #[.int .i64 0, .bool false, .bool false, .int .i64 0, .int .u64 0, .int .u64 0, .int .u64 0, .int .u64 0], .int .i64 1]) (by simp only [results, Tryz.results21]; go_simp) rfl ⟨rfl, bgo⟩
section
variable (n : Int) (B : Nat) (f e : Nat) (l m : Int) (w : World) (hT : Tab w) (S : Bool) (E sp : Int) (Fr : Nat)
 (c18 : ∀ w, Tab w → Calls Tryz.prog 48 #[.int .i64 n, A4 B] w fun x w' => x = .returned (.tuple #[LV f e l m, .int .i64 0]) ∧ Below w.heap.size w w')
 (c19 : ∀ w, Calls Tryz.prog 49 #[LV f e l m, A4 B] w fun x w' => x = .returned (.tuple #[.bool S, .int .u64 E, A4 Fr]) ∧ Below w.heap.size w w')
 (c20 : ∀ w, Calls Tryz.prog 50 #[LV f e l m] w fun x w' => x = .returned (.int .u64 sp) ∧ Below w.heap.size w w')
include hT c18 c19 c20
theorem unpack_sp (D : Dat) (c21 : ∀ w, Calls Tryz.prog 51 #[LV f e l m, .bool S, A4 Fr] w fun x w' => x = .returned D.v ∧ Below w.heap.size w w') (hE : (E == sp) = true) :
  Calls Tryz.prog 21 #[.int .i64 n, A4 B] w fun x w' => x = .returned (.tuple #[D.v, .int .i64 0]) ∧ Below w.heap.size w w' := by
 obtain ⟨dc, ds, dg, dx, dk⟩ := D
 unfold Dat.v at *
 dsimp only at *
 go_enter Tryz.func21, Tryz.ntmps21
 go_wp2_with (first
  | (go_at_call 48; refine (c18 _ ((hT.alloc _).alloc _)).mono ?_; rintro x w1 ⟨rfl, hb1⟩; obtain ⟨hc1, hf1, hz1_0, hl1_0, hA1, hs1⟩ := wz w hb1 w.heap.size; obtain ⟨hz1_1, hl1_1⟩ := zf hb1 (w.heap.size + 1); clear hb1)
  | (go_at_call 49; refine (c19 _).mono ?_; rintro x w2 ⟨rfl, hb2⟩; obtain ⟨hc2, hf2, hz2_0, hl2_0, hA2, hs2⟩ := wz w hb2 w.heap.size; obtain ⟨hz2_1, hl2_1⟩ := zf hb2 (w.heap.size + 1); obtain ⟨hz2_2, hl2_2⟩ := zf hb2 w1.heap.size; clear hb2)
  | (go_at_call 50; refine (c20 _).mono ?_; rintro x w3 ⟨rfl, hb3⟩; obtain ⟨hc3, hf3, hz3_0, hl3_0, hA3, hs3⟩ := wz w hb3 w.heap.size; obtain ⟨hz3_1, hl3_1⟩ := zf hb3 (w.heap.size + 1); obtain ⟨hz3_2, hl3_2⟩ := zf hb3 w1.heap.size; obtain ⟨hz3_3, hl3_3⟩ := zf hb3 w2.heap.size; clear hb3)
  | (go_at_call 51; refine (c21 _).mono ?_; rintro x w4 ⟨rfl, hb4⟩; obtain ⟨hc4, hf4, hz4_0, hl4_0, hA4, hs4⟩ := wz w hb4 w.heap.size; obtain ⟨hz4_1, hl4_1⟩ := zf hb4 (w.heap.size + 1); obtain ⟨hz4_2, hl4_2⟩ := zf hb4 w1.heap.size; obtain ⟨hz4_3, hl4_3⟩ := zf hb4 w2.heap.size; clear hb4))
 have hsm := cell_set_map
 exact bodyPost_ret (v := .tuple #[DV dc ds dg dx dk, .int .i64 0]) (by simp only [results, Tryz.results21]; go_simp) rfl ⟨rfl, bgo⟩
theorem unpack_sub (hE : (E == sp) = false) (hE0 : E = 0) :
  Calls Tryz.prog 21 #[.int .i64 n, A4 B] w fun x w' => x = .returned (.tuple #[DV 1 S false l Fr, .int .i64 0]) ∧ Below w.heap.size w w' := by
 subst hE0
 go_enter Tryz.func21, Tryz.ntmps21
 go_wp2_with (first
  | (go_at_call 48; refine (c18 _ ((hT.alloc _).alloc _)).mono ?_; rintro x w1 ⟨rfl, hb1⟩; obtain ⟨hc1, hf1, hz1_0, hl1_0, hA1, hs1⟩ := wz w hb1 w.heap.size; obtain ⟨hz1_1, hl1_1⟩ := zf hb1 (w.heap.size + 1); clear hb1)
  | (go_at_call 49; refine (c19 _).mono ?_; rintro x w2 ⟨rfl, hb2⟩; obtain ⟨hc2, hf2, hz2_0, hl2_0, hA2, hs2⟩ := wz w hb2 w.heap.size; obtain ⟨hz2_1, hl2_1⟩ := zf hb2 (w.heap.size + 1); obtain ⟨hz2_2, hl2_2⟩ := zf hb2 w1.heap.size; clear hb2)
  | (go_at_call 50; refine (c20 _).mono ?_; rintro x w3 ⟨rfl, hb3⟩; obtain ⟨hc3, hf3, hz3_0, hl3_0, hA3, hs3⟩ := wz w hb3 w.heap.size; obtain ⟨hz3_1, hl3_1⟩ := zf hb3 (w.heap.size + 1); obtain ⟨hz3_2, hl3_2⟩ := zf hb3 w1.heap.size; obtain ⟨hz3_3, hl3_3⟩ := zf hb3 w2.heap.size; clear hb3))
 have hsm := cell_set_map
 exact bodyPost_ret (v := .tuple #[DV 1 S false l Fr, .int .i64 0]) (by simp only [results, Tryz.results21]; go_simp) rfl ⟨rfl, bgo⟩
theorem unpack_norm (Pw Co : Nat) (cr : Int) (hl : -1000000 ≤ l ∧ l ≤ 0) (hE : (E == sp) = false) (hE0 : 0 < E) (hE1 : E ≤ 32768)
  (c23 : ∀ w, Calls Tryz.prog 53 #[.int .i64 f] w fun x w' => x = .returned (A4 Pw) ∧ Below w.heap.size w w')
  (c22 : ∀ w, Calls Tryz.prog 52 #[A4 Fr, A4 Pw] w fun x w' => x = .returned (.tuple #[A4 Co, .int .u64 cr]) ∧ Below w.heap.size w w') :
  Calls Tryz.prog 21 #[.int .i64 n, A4 B] w fun x w' => x = .returned (.tuple #[DV 1 S false (l + (E - 1)) Co, .int .i64 0]) ∧ Below w.heap.size w w' := by
 go_enter Tryz.func21, Tryz.ntmps21
 go_wp2_with (first
  | (go_at_call 48; refine (c18 _ ((hT.alloc _).alloc _)).mono ?_; rintro x w1 ⟨rfl, hb1⟩; obtain ⟨hc1, hf1, hz1_0, hl1_0, hA1, hs1⟩ := wz w hb1 w.heap.size; obtain ⟨hz1_1, hl1_1⟩ := zf hb1 (w.heap.size + 1); clear hb1)
  | (go_at_call 49; refine (c19 _).mono ?_; rintro x w2 ⟨rfl, hb2⟩; obtain ⟨hc2, hf2, hz2_0, hl2_0, hA2, hs2⟩ := wz w hb2 w.heap.size; obtain ⟨hz2_1, hl2_1⟩ := zf hb2 (w.heap.size + 1); obtain ⟨hz2_2, hl2_2⟩ := zf hb2 w1.heap.size; clear hb2)
  | (go_at_call 50; refine (c20 _).mono ?_; rintro x w3 ⟨rfl, hb3⟩; obtain ⟨hc3, hf3, hz3_0, hl3_0, hA3, hs3⟩ := wz w hb3 w.heap.size; obtain ⟨hz3_1, hl3_1⟩ := zf hb3 (w.heap.size + 1); obtain ⟨hz3_2, hl3_2⟩ := zf hb3 w1.heap.size; obtain ⟨hz3_3, hl3_3⟩ := zf hb3 w2.heap.size; clear hb3))
 have hn1 : w1.heap.size ≠ w.heap.size := by omega
 have hn2 : w1.heap.size ≠ w.heap.size + 1 := by omega
 have hn3 : w2.heap.size ≠ w1.heap.size := by omega
 refine wp_made 5 8 12 #[.int .u64 0, .int .u64 0, .int .u64 0, .int .u64 0] (by kernel_rfl) (by kernel_rfl) (by kernel_rfl) rfl (fun oa hoa a w => ?_) (by kernel_rfl) (by kernel_rfl) rfl rfl (fun _ _ d _ _ h => by cases d <;> exact h) ?_
 ·cases hoa; exact ⟨23, by simp [go_sem]⟩
 apply Exists.intro
 refine ⟨fun al hne hcell => ?_, fun w4 hb4 => ?_, fun g w4 hb4 hg0 hg1 hg2 hg3 => ?_⟩
 ·simp only [List.take_succ_cons, List.take_zero]
  repeat go_big_quiet_step (fail)
  go_big_quiet_step ((go_at_call 53; exact calls_wd _ al_next (c23 _)))
  repeat go_big_quiet_step (fail)
  go_big_quiet_step ((go_at_call 52; exact calls_wd _ al_next (c22 _)))
  exact wpQuiet_nil rfl
 ·simp only [List.drop_succ_cons, List.drop_zero]
  obtain ⟨hc4, hf4, hz4_0, hl4_0, hA4, hs4⟩ := wz w hb4 w.heap.size; obtain ⟨hz4_1, hl4_1⟩ := zf hb4 (w.heap.size + 1); obtain ⟨hz4_2, hl4_2⟩ := zf hb4 w1.heap.size; obtain ⟨hz4_3, hl4_3⟩ := zf hb4 w2.heap.size; obtain ⟨hz4_4, hl4_4⟩ := zf hb4 w3.heap.size; clear hb4
  have hsm := cell_set_map
  go_wp2
  exact bodyPost_ret (v := .tuple #[DV 1 S false (l + (E - 1)) Co, .int .i64 0]) (by simp only [results, Tryz.results21]; go_simp) rfl ⟨rfl, bgo⟩
 ·simp only [List.drop_succ_cons, List.drop_zero, Nat.reduceSub, List.eraseIdx_cons_succ, List.eraseIdx_cons_zero]
  simp only [World.size_alloc] at hg0
  have hgw := hA3.size
  have hz0 : g ≠ w.heap.size := by omega
  have hz1 : g ≠ w.heap.size + 1 := by omega
  have hz2 : g ≠ w1.heap.size := by omega
  have hz3 : g ≠ w2.heap.size := by omega
  have hz4 : g ≠ w3.heap.size := by omega
  obtain ⟨hc4, hf4, hz4_0, hl4_0, hA4, hs4⟩ := wz w hb4 w.heap.size; obtain ⟨hz4_1, hl4_1⟩ := zf hb4 (w.heap.size + 1); obtain ⟨hz4_2, hl4_2⟩ := zf hb4 w1.heap.size; obtain ⟨hz4_3, hl4_3⟩ := zf hb4 w2.heap.size; obtain ⟨hz4_4, hl4_4⟩ := zf hb4 w3.heap.size; clear hb4
  have hsm := cell_set_map
  go_wp2
  exact bodyPost_ret (v := .tuple #[DV 1 S false (l + (E - 1)) Co, .int .i64 0]) (by simp only [results, Tryz.results21]; go_simp) rfl ⟨rfl, bgo⟩
end
theorem unpack_ok (n : Int) (B : Nat) (w : World) (hT : Tab w) (hB : B < 2 ^ 256) (h : goodN n B) :
  Calls Tryz.prog 21 #[.int .i64 n, A4 B] w fun x w' => x = .returned (.tuple #[(unp (fN n) (eN n) (leastN n) B).v, .int .i64 0]) ∧ Below w.heap.size w w' := by
 have hF := bin_fm h.1
 have c18 := fun w hT => layoutFor_ok n B w hT hB h
 have c19 := fun w => split_any (fN n) (eN n) (leastN n) (mostN n) B w hF hB
 have c20 := fun w => special_any (fN n) (eN n) (leastN n) (mostN n) w hF
 have hf240 := hF.f240
 have hp := pow_e hF.e2 hF.e15
 have hpc : ((2 : Int) ^ eN n) = ((2 ^ eN n : Nat) : Int) := by simp
 have hmod : B / 2 ^ fN n % 2 ^ eN n < 2 ^ eN n := Nat.mod_lt _ (Nat.two_pow_pos _)
 have hfr : B % 2 ^ fN n < 2 ^ fN n := Nat.mod_lt _ (Nat.two_pow_pos _)
 have hf256 : 2 ^ fN n < 2 ^ 256 := Nat.pow_lt_pow_right (by decide) (by omega)
 unfold unp
 by_cases h1 : B / 2 ^ fN n % 2 ^ eN n = 2 ^ eN n - 1
 ·rw [if_pos h1]
  exact unpack_sp n B _ _ _ _ w hT _ _ _ _ c18 c19 c20 _ (fun w => special_spc (fN n) (eN n) (leastN n) (mostN n) (sgB (fN n) (eN n) B) (B % 2 ^ fN n) w hF (by omega)) (by rw [h1]; simp)
 ·rw [if_neg h1]
  have hE : (((B / 2 ^ fN n % 2 ^ eN n : Nat) : Int) == ((2 ^ eN n - 1 : Nat) : Int)) = false := by
   rw [beq_eq_false_iff_ne]; omega
  by_cases h2 : B / 2 ^ fN n % 2 ^ eN n = 0
  ·rw [if_pos h2]
   exact unpack_sub n B _ _ _ _ w hT _ _ _ _ c18 c19 c20 hE (by omega)
  ·rw [if_neg h2]
   have h256 : (2 : Nat) ^ 256 = 115792089237316195423570985008687907853269984665640564039457584007913129639936 := by decide
   exact unpack_norm n B _ _ _ _ w hT _ _ _ _ c18 c19 c20 (2 ^ fN n) (B % 2 ^ fN n + 2 ^ fN n) _ ⟨hF.l1, hF.l0⟩ hE (by omega) (by rw [hpc] at hp; omega) (fun w => power_any (fN n) w (by omega)) (fun w => add4 (B % 2 ^ fN n) (2 ^ fN n) w (by omega) hf256)
end
end Go.Proofs.YtplocajjfoiklaaGreatDoor
