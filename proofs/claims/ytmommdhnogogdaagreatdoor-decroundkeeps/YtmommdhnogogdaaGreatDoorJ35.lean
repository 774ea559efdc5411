/-
  Texts that the proof leans on, joined: Ed, Nsf.
-/
import Derived.Test.YtmommdhnogogdaaGreatDoorJ31
import Derived.Test.YtmommdhnogogdaaGreatDoorJ34
import Derived.Test.YtmommdhnogogdaaGreatDoorJ22
import Derived.Test.YtmommdhnogogdaaGreatDoorJ1
import Derived.Test.YtmommdhnogogdaaGreatDoorJ5
import Derived.Test.YtmommdhnogogdaaGreatDoorJ4
set_option linter.unusedVariables false
set_option linter.unusedSectionVars false
set_option linter.unusedSimpArgs false
set_option maxRecDepth 20000
namespace Go.Proofs.YtmommdhnogogdaaGreatDoor
open Go.RowKit
theorem npow10d (m : Nat) (w : World) (hm : m ≤ 12000) : Calls Tryz.prog 71 #[.int .i64 10, .int .i64 (m : Int)] w fun r w' => ∃ v, r = .returned (.tuple #[v, .int .i64 0]) ∧ NT 2001 (10 ^ m) v w' ∧ Below w.heap.size w w' := by
  refine (npow_any 10 m w (Or.inr rfl) hm).mono fun r w' ⟨g, k, cap, z, e1, hk, hN, hv, hs, hB⟩ => ⟨_, e1, ⟨g, k, cap, z, rfl, hk, hN, ?_, hs⟩, hB⟩
  rw [hv]; simp
attribute [local irreducible] W4 Nz Nt NT
set_option maxHeartbeats 1000000 in
theorem drten_v (m : Nat) (w : World) (hm : m ≤ 12000) : Calls Tryz.prog 31 #[.int .i64 (m : Int)] w fun r w' => ∃ v, r = .returned v ∧ NT 2001 (10 ^ m) v w' ∧ Below w.heap.size w w' := by
  have c1 := fun W => npow10d m W hm
  go_enter Tryz.func31, Tryz.ntmps31
  go_wp2_with (go_at_call 71; refine (c1 _).mono ?_; rintro r w1 ⟨v, rfl, hv, hb1⟩)
  go_ret
  exact ⟨v, rfl, hv, hb1⟩
set_option maxHeartbeats 1000000 in
theorem ddig_w {v : Value} {l : List UInt8} {w : World} (hl : l.length ≤ 100000) (c1 : ∀ W, Below w.heap.size w W → Calls Tryz.prog 83 #[v] W fun r w' => r = .returned (.tuple #[.string (B l), .int .i64 0]) ∧ Below W.heap.size W w') :
    Calls Tryz.prog 64 #[v] w fun r w' => r = .returned (.int .i64 (l.length : Int)) ∧ Below w.heap.size w w' := by
  have hB := B_size l
  go_enter Tryz.func64, Tryz.ntmps64
  go_wp2_with (go_at_call 83; refine (c1 _ bgo).mono ?_; rintro r w1 ⟨rfl, hb1⟩)
  go_ret
  exact ⟨by simp [hB], hb1⟩
/-- how many digits a number has -/
theorem ddig_v {K X : Nat} {v : Value} {w : World} (hK : K < 100000) (h0 : X ≠ 0) (hb : bl X ≤ 39785) (h : Nt K X v w) : Calls Tryz.prog 64 #[v] w fun r w' => r = .returned (.int .i64 ((dcW X).length : Int)) ∧ Below w.heap.size w w' := by
  have := dcW_most h0 hb
  exact ddig_w (by omega) fun W hW => ndig_nW hK (by omega) h0 (h.next hW)
section
variable (m : Nat) (vn vd : Value) (w : World) (A P : Nat)
set_option maxHeartbeats 1000000 in
theorem dscaled_n (n : Int) (hn : n < 0) (hm : -n = (m : Int)) (hm2 : m ≤ 12000)
    (c1 : ∀ W, Calls Tryz.prog 31 #[.int .i64 (m : Int)] W fun r w' => ∃ v, r = .returned v ∧ NT 2001 (10 ^ m) v w' ∧ Below W.heap.size W w')
    (c2 : ∀ W p, Below w.heap.size w W → NT 2001 (10 ^ m) p W → Calls Tryz.prog 65 #[vd, p] W fun e w' => ∃ u, e = .returned (.tuple #[u, .int .i64 0]) ∧ NT 2001 P u w' ∧ Below W.heap.size W w') :
    Calls Tryz.prog 28 #[vn, vd, .int .i64 n] w fun r w' => ∃ v, r = .returned (.tuple #[vn, v]) ∧ NT 2001 P v w' ∧ Below w.heap.size w w' := by
  obtain rfl : n = -(m : Int) := by omega
  clear hm
  have hm1 : 0 < m := by omega
  go_enter Tryz.func28, Tryz.ntmps28
  go_wp2_with (first
    | (go_at_call 31; refine (c1 _).mono ?_; rintro r w1 ⟨v1, rfl, hv1, hb1⟩)
    | (go_at_call 65; refine (c2 _ _ hb1 hv1).mono ?_; rintro r w2 ⟨v2, rfl, hv2, hb2⟩))
  exact bodyPost_ret (v := .tuple #[vn, v2]) (by simp only [results, Tryz.results28]; go_simp) rfl ⟨_, rfl, hv2, bnx hb1 hb2⟩
set_option maxHeartbeats 1000000 in
theorem dscaled_p (hm2 : m ≤ 12000)
    (c1 : ∀ W, Calls Tryz.prog 31 #[.int .i64 (m : Int)] W fun r w' => ∃ v, r = .returned v ∧ NT 2001 (10 ^ m) v w' ∧ Below W.heap.size W w')
    (c2 : ∀ W p, Below w.heap.size w W → NT 2001 (10 ^ m) p W → Calls Tryz.prog 65 #[vn, p] W fun e w' => ∃ u, e = .returned (.tuple #[u, .int .i64 0]) ∧ NT 2001 P u w' ∧ Below W.heap.size W w') :
    Calls Tryz.prog 28 #[vn, vd, .int .i64 (m : Int)] w fun r w' => ∃ v, r = .returned (.tuple #[v, vd]) ∧ NT 2001 P v w' ∧ Below w.heap.size w w' := by
  go_enter Tryz.func28, Tryz.ntmps28
  go_wp2_with (first
    | (go_at_call 31; refine (c1 _).mono ?_; rintro r w1 ⟨v1, rfl, hv1, hb1⟩)
    | (go_at_call 65; refine (c2 _ _ hb1 hv1).mono ?_; rintro r w2 ⟨v2, rfl, hv2, hb2⟩))
  exact bodyPost_ret (v := .tuple #[v2, vd]) (by simp only [results, Tryz.results28]; go_simp) rfl ⟨_, rfl, hv2, bnx hb1 hb2⟩
end
/-- two numbers whose fraction is times a power of ten -/
theorem dscaled_v (n : Int) {N D : Nat} {vn vd : Value} {w : World} (h : Nt 2001 N vn w) (h' : Nt 2001 D vd w) (hn : -12000 ≤ n ∧ n ≤ 12000) (h1 : bl N + 4 * n.toNat + 1 ≤ 127000) (h2 : bl D + 4 * (-n).toNat + 1 ≤ 127000) :
    Calls Tryz.prog 28 #[vn, vd, .int .i64 n] w fun r w' => ∃ va vb, r = .returned (.tuple #[va, vb]) ∧ Nt 2001 (N * 10 ^ n.toNat) va w' ∧ Nt 2001 (D * 10 ^ (-n).toNat) vb w' ∧ Below w.heap.size w w' := by
  have t1 := ten_bl n.toNat
  have t2 := ten_bl (-n).toNat
  by_cases hn0 : n < 0
  · have e0 : n.toNat = 0 := by omega
    rw [e0, Nat.pow_zero, Nat.mul_one]
    refine (dscaled_n (-n).toNat vn vd w (D * 10 ^ (-n).toNat) n hn0 (by omega) (by omega) (fun W => drten_v _ W (by omega)) (fun W p hW hp => nmul_w (by decide) (by decide) (h'.next hW) hp.nt (by omega))).mono ?_
    rintro r w' ⟨v, e1, e2, e3⟩
    exact ⟨_, _, e1, h.next e3, e2.nt, e3⟩
  · have e0 : (-n).toNat = 0 := by omega
    rw [e0, Nat.pow_zero, Nat.mul_one]
    have := dscaled_p n.toNat vn vd w (N * 10 ^ n.toNat) (by omega) (fun W => drten_v _ W (by omega)) (fun W p hW hp => nmul_w (by decide) (by decide) (h.next hW) hp.nt (by omega))
    rw [Int.toNat_of_nonneg (by omega)] at this
    refine this.mono ?_
    rintro r w' ⟨v, e1, e2, e3⟩
    exact ⟨_, _, e1, e2.nt, h'.next e3, e3⟩
section
variable (vn vd : Value) (w : World) (a b : Nat) (c : Int) (ha : a ≤ 12000) (hb : b ≤ 12000)
  (c1 : ∀ W, Below w.heap.size w W → Calls Tryz.prog 64 #[vn] W fun r w' => r = .returned (.int .i64 (a : Int)) ∧ Below W.heap.size W w')
  (c1d : ∀ W, Below w.heap.size w W → Calls Tryz.prog 64 #[vd] W fun r w' => r = .returned (.int .i64 (b : Int)) ∧ Below W.heap.size W w')
  (c2 : ∀ W n, n = (b : Int) - a → Below w.heap.size w W → Calls Tryz.prog 28 #[vn, vd, .int .i64 n] W fun r w' => ∃ va vb, r = .returned (.tuple #[va, vb]) ∧ Below W.heap.size W w' ∧ (∀ W', Below w'.heap.size w' W' → Calls Tryz.prog 30 #[va, vb] W' fun r w'' => r = .returned (.int .i64 c) ∧ Below W'.heap.size W' w''))
include ha hb c1 c1d c2
set_option maxHeartbeats 1000000 in
theorem dlead_l (hc : c < 0) : Calls Tryz.prog 26 #[vn, vd] w fun r w' => r = .returned (.int .i64 ((a : Int) - b - 1)) ∧ Below w.heap.size w w' := by
  go_enter Tryz.func26, Tryz.ntmps26
  go_wp2_with (first
    | (have := hb2; go_at_call 28; refine (c2 _ _ (by omega) (bnx hb1 hb2)).mono ?_; rintro r w3 ⟨va, vb, rfl, hb3, c3⟩)
    | (go_at_call 30; refine (c3 _ (Below.refl _ _)).mono ?_; rintro r w4 ⟨rfl, hb4⟩)
    | (have := hb1; go_at_call_of 64 vd; refine (c1d _ hb1).mono ?_; rintro r w2 ⟨rfl, hb2⟩)
    | (go_at_call_of 64 vn; refine (c1 _ bgo).mono ?_; rintro r w1 ⟨rfl, hb1⟩))
  go_ret
  exact ⟨rfl, bnx (bnx (bnx hb1 hb2) hb3) hb4⟩
set_option maxHeartbeats 1000000 in
theorem dlead_g (hc : ¬ c < 0) : Calls Tryz.prog 26 #[vn, vd] w fun r w' => r = .returned (.int .i64 ((a : Int) - b)) ∧ Below w.heap.size w w' := by
  go_enter Tryz.func26, Tryz.ntmps26
  go_wp2_with (first
    | (have := hb2; go_at_call 28; refine (c2 _ _ (by omega) (bnx hb1 hb2)).mono ?_; rintro r w3 ⟨va, vb, rfl, hb3, c3⟩)
    | (go_at_call 30; refine (c3 _ (Below.refl _ _)).mono ?_; rintro r w4 ⟨rfl, hb4⟩)
    | (have := hb1; go_at_call_of 64 vd; refine (c1d _ hb1).mono ?_; rintro r w2 ⟨rfl, hb2⟩)
    | (go_at_call_of 64 vn; refine (c1 _ bgo).mono ?_; rintro r w1 ⟨rfl, hb1⟩))
  go_ret
  exact ⟨rfl, bnx (bnx (bnx hb1 hb2) hb3) hb4⟩
end
/-- the place of a fraction's first digit -/
theorem dlead_v {N D : Nat} {vn vd : Value} {w : World} (h : Nt 2001 N vn w) (h' : Nt 2001 D vd w) (hN : N ≠ 0) (hD : D ≠ 0) (h1 : bl N ≤ 25600) (h2 : bl D ≤ 25600) :
    ∃ L, TnE N D L ∧ Calls Tryz.prog 26 #[vn, vd] w fun r w' => r = .returned (.int .i64 L) ∧ Below w.heap.size w w' := by
  obtain ⟨n1, n2, n3⟩ := dcW_bd hN
  obtain ⟨d1, d2, d3⟩ := dcW_bd hD
  have nm := dcW_most hN (by omega)
  have dm := dcW_most hD (by omega)
  have c1 := fun W (hb : Below w.heap.size w W) => ddig_v (by decide) hN (by omega) (h.next hb)
  have c1d := fun W (hb : Below w.heap.size w W) => ddig_v (by decide) hD (by omega) (h'.next hb)
  generalize ha : (dcW N).length = a at *
  generalize hb : (dcW D).length = b at *
  have hab : 3 * a ≤ bl N + 3 ∧ 3 * b ≤ bl D + 3 := by
    constructor
    · have := tnG_up (N := N) (D := 1) (E := (a : Int) - 1) (by decide) (by rw [tnG_ab N 1 (show (((a - 1 : Nat)) : Int) - ((0 : Nat) : Int) = (a : Int) - 1 by omega)]; omega)
      omega
    · have := tnG_up (N := D) (D := 1) (E := (b : Int) - 1) (by decide) (by rw [tnG_ab D 1 (show (((b - 1 : Nat)) : Int) - ((0 : Nat) : Int) = (b : Int) - 1 by omega)]; omega)
      omega
  have c2 : ∀ W n, n = (b : Int) - a → Below w.heap.size w W → Calls Tryz.prog 28 #[vn, vd, .int .i64 n] W fun r w' => ∃ va vb, r = .returned (.tuple #[va, vb]) ∧ Below W.heap.size W w' ∧ (∀ W', Below w'.heap.size w' W' → Calls Tryz.prog 30 #[va, vb] W' fun r w'' => r = .returned (.int .i64 (sgn ((N * 10 ^ (-((a : Int) - b)).toNat : Nat) : Int) ((D * 10 ^ ((a : Int) - b).toNat : Nat) : Int))) ∧ Below W'.heap.size W' w'') := by
    intro W n hn hW
    refine (dscaled_v n (h.next hW) (h'.next hW) (by omega) (by omega) (by omega)).mono ?_
    rintro r w' ⟨va, vb, e1, e2, e3, e4⟩
    refine ⟨va, vb, e1, e4, fun W' hW' => ?_⟩
    rw [show n = -((a : Int) - b) by omega] at e2 e3
    rw [Int.neg_neg] at e3
    exact ncmp_v (by decide) (by decide) (e2.next hW') (e3.next hW')
  have up : ¬ tnG N D ((a : Int) - b + 1) := by
    rw [tnG_ab N D (show ((a : Nat) : Int) - ((b - 1 : Nat) : Int) = (a : Int) - b + 1 by omega)]
    intro hh
    have k1 : N * 10 ^ (b - 1) < 10 ^ a * 10 ^ (b - 1) := Nat.mul_lt_mul_of_pos_right n3 (ten_pos _)
    have k2 : 10 ^ a * 10 ^ (b - 1) ≤ 10 ^ a * D := Nat.mul_le_mul_left _ d2
    rw [Nat.mul_comm (10 ^ a) D] at k2
    omega
  have lo : tnG N D ((a : Int) - b - 1) := by
    rw [tnG_ab N D (show ((a - 1 : Nat) : Int) - ((b : Nat) : Int) = (a : Int) - b - 1 by omega)]
    have k1 : D * 10 ^ (a - 1) ≤ 10 ^ b * 10 ^ (a - 1) := Nat.mul_le_mul_right _ (Nat.le_of_lt d3)
    have k2 : 10 ^ b * 10 ^ (a - 1) ≤ 10 ^ b * N := Nat.mul_le_mul_left _ n2
    rw [Nat.mul_comm (10 ^ b) N] at k2
    omega
  have hcmp : tnG N D ((a : Int) - b) ↔ ¬ sgn ((N * 10 ^ (-((a : Int) - b)).toNat : Nat) : Int) ((D * 10 ^ ((a : Int) - b).toNat : Nat) : Int) < 0 := by
    unfold tnG
    rcases sgn_ways ((N * 10 ^ (-((a : Int) - b)).toNat : Nat) : Int) ((D * 10 ^ ((a : Int) - b).toNat : Nat) : Int) with ⟨x, e⟩ | ⟨x, e⟩ | ⟨x, e⟩ <;> omega
  by_cases hg : tnG N D ((a : Int) - b)
  · exact ⟨(a : Int) - b, ⟨hg, up⟩, dlead_g vn vd w a b _ (by omega) (by omega) c1 c1d c2 (hcmp.1 hg)⟩
  · refine ⟨(a : Int) - b - 1, ⟨lo, ?_⟩, dlead_l vn vd w a b _ (by omega) (by omega) c1 c1d c2 (Decidable.not_not.1 (mt hcmp.2 hg))⟩
    rw [show (a : Int) - b - 1 + 1 = (a : Int) - b by omega]
    exact hg
set_option maxHeartbeats 1000000 in
theorem dwithin_v (n : Int) (nm : ByteArray) (wd P ex l m pa : Int) (dn : Bool) (lead x : Int) (w : World) (hP : 0 ≤ P ∧ P ≤ 300) (hl : -100000 ≤ l ∧ l ≤ 100000) (hm : -100000 ≤ m ∧ m ≤ 100000) (hd : -100000 ≤ lead ∧ lead ≤ 100000) :
    Calls Tryz.prog 27 #[IDec n nm wd P ex l m pa dn, .int .i64 lead, .int .i64 x] w fun r w' => r = .returned (.int .i64 (min (max x (l - 2 - lead)) (m + P - lead))) ∧ Below w.heap.size w w' := by
  go_enter Tryz.func27, Tryz.ntmps27
  go_wp2
  go_ret
  exact ⟨by first | rfl | simp, bgo⟩
end Go.Proofs.YtmommdhnogogdaaGreatDoor

namespace Go.Proofs.YtmommdhnogogdaaGreatDoor
open Go.RowKit

set_option maxHeartbeats 2000000 in
theorem nsubF (a a' : Option Addr) (n c n' c' : Nat) (x y : Nat → Int) (w : World) (hn : n < 4000000000) (hn' : n' < 4000000000) (h : Num w a n c x) (h' : Num w a' n' c' y) (hv : val y n' ≤ val x n) :
    Calls Tryz.prog 73 #[.slice a n c, .slice a' n' c'] w fun e w' => ∃ g k cap z, e = .returned (.tuple #[.slice (some ⟨g, 0, none⟩) k cap, .int .i64 0]) ∧ k ≤ sizeL x n ∧ Num w' (some ⟨g, 0, none⟩) k cap z ∧ val z k = val x n - val y n' ∧ sizeL z k = k ∧ Below w.heap.size w w' ∧ w.heap.size ≤ g ∧ ∀ i, w'.frozen? ⟨g, i, none⟩ = false := by
  have hc := ncmp_any a a' n c n' c' x y w (by omega) (by omega) h h'
  have hsg : 0 ≤ sgn (val x n) (val y n') := by unfold sgn; rw [if_neg (by omega)]; split <;> omega
  have hsb := sgn_bd (val x n) (val y n')
  generalize sgn (val x n) (val y n') = sg at *
  have ht := fun wr hN => ntrim_any a n c x wr (by omega) hN
  have hb' := fun wr hN => bare_any a' n' c' y wr (by omega) hN
  have hx := h.2.2.1
  have hy := h'.2.2.1
  have hle := sizeL_le x n
  have hle' := sizeL_le y n'
  have hvx := val_bare (x := x) n
  have hvy := val_bare (x := y) n'
  have hss : sizeL y n' ≤ sizeL x n := by
    rcases Nat.lt_or_ge (sizeL x n) (sizeL y n') with h1 | h1
    · have := val_longer hx hy h1 (sizeL_sizeL y n'); omega
    · exact h1
  have zx := h.bare.2.2.2.1
  have zy := h'.bare.2.2.2.1
  have HNb : Hid (Num w a' (sizeL y n') c' y) := h'.bare
  rw [← hvx, ← hvy] at hv ⊢
  generalize sizeL x n = s at *
  generalize sizeL y n' = s' at *
  have hend : borW x y s = 0 := borW_end hx hy (by rw [val_more zy s hss]; exact hv)
  have HV : Hid (val (difW x y) s = val x s - val y s') := by
    show _ = _
    have e := dif_val hx hy s
    rw [hend, val_more zy s hss] at e
    omega
  have HN : Hid (Num w a n c x) := h
  have HN' : Hid (Num w a' n' c' y) := h'
  clear h h' hv hvx hvy zx
  go_enter Tryz.func73, Tryz.ntmps73
  go_wp2_with (go_at_call 30; refine hc.mono ?_; rintro e wC ⟨rfl, m, hwC⟩)
  have hBC : Below w.heap.size w wC := by rw [← hwC]; exact below_drewN (Below.refl _ _) m
  have hg : wC.heap.size = w.heap.size := by rw [← hwC]; rfl
  have h1 := ht wC (HN.out.next hBC)
  rw [hg] at h1
  go_wp2_with (go_at_call 85; refine h1.mono ?_; rintro e w1 ⟨rfl, hw1⟩)
  have hB1 : Below w.heap.size wC w1 := by rw [← hw1]; have := below1 wC (.cells (arrOf x s) 22); rw [hg] at this; exact this
  have hO1 : Own w.heap.size s x w1 := by rw [← hw1]; have := Own.new wC x s; rw [hg] at this; exact this
  have hBw1 := hBC.trans hB1
  have h2 := hb' w1 (HN'.out.next hBw1)
  clear hw1 h1 ht hb' hc hB1 hBC hwC hg
  go_wp2_with (go_at_call 62; refine h2.mono ?_; rintro e w2 ⟨rfl, rfl⟩)
  have hNb := HNb.out.next hBw1
  have hA : Apart a' w.heap.size := by
    intro p hp
    rcases HNb.out.2.2.2.2 with ⟨h, _⟩ | ⟨b, off, h, hb, _⟩
    · rw [h] at hp; cases hp
    · rw [h] at hp; cases hp; exact Nat.ne_of_lt hb
  clear h2 HNb HN HN'
  go_loopw [8, 9, 10, 22, 27] (fun bv u9 u10 i u27 wr => ∃ (j : Nat), j ≤ s' ∧ i = .int .i64 j ∧ bv = .int .u64 (borW x y j) ∧ Own w.heap.size s (subZ x y j) wr ∧ Upd w.heap.size w1 wr) (fun _ _ _ i _ _ => s' - (intOf i).toNat)
  case atStart => exact ⟨0, Nat.zero_le _, rfl, rfl, hO1.congr fun i _ => by unfold subZ; rw [if_neg (by omega)], Upd.refl _ _⟩
  case round =>
    clear hO1
    obtain ⟨j, hj, rfl, rfl, hO, hU⟩ := hrel
    have hbo := borW_01 x y j
    by_cases hlt : j < s'
    · have hji : (j : Int) < s' := by omega
      have hjm : (j : Int) < s := by omega
      obtain ⟨b, off', rfl, hb, hc⟩ := (hU.num' hA hNb).cells (by omega)
      have hcj := hc j hlt
      have hco := hO.cell j (by omega)
      rw [subZ_at] at hco
      have hfo := hO.frozen j
      have bx := hx j
      have b_y := hy j
      have hadd := fun w => sub64 (x j) (y j) (borW x y j) bx.1 b_y.1 (by omega) hbo.1 hbo.2 w
      have HO : Hid (Own w.heap.size s (subZ x y (j + 1)) (wr.setCell ⟨w.heap.size, j, none⟩ (.int .u64 (difW x y j)))) := (hO.set j _).congr fun i _ => subZ_next x y j i
      have HU : Hid (Upd w.heap.size w1 (wr.setCell ⟨w.heap.size, j, none⟩ (.int .u64 (difW x y j)))) := hU.set j _
      clear hO hU hc hNb hA hx hy zy hend
      go_wp2
      go_roundw
      case rel => exact ⟨j + 1, by omega, by go_num, rfl, HO.out, HU.out⟩
      case measure => simp [intOf]; omega
    · obtain rfl : j = s' := by omega
      have HO : Hid (Own w.heap.size s (subZ x y j) wr) := hO
      have HU : Hid (Upd w.heap.size w1 wr) := hU
      clear hO hU hNb hA
      go_wp2
      go_loopw [8, 11, 47] (fun bv i u47 wr => ∃ (q : Nat), j + q ≤ s ∧ i = .int .i64 ((j : Int) + q) ∧ bv = .int .u64 (borW x y (j + q)) ∧ Own w.heap.size s (subZ x y (j + q)) wr ∧ Upd w.heap.size w1 wr) (fun _ i _ _ => s - (intOf i).toNat)
      case atStart => exact ⟨0, by omega, by go_num, rfl, HO.out, HU.out⟩
      case round =>
        clear HO HU
        obtain ⟨q, hq, rfl, rfl, hO, hU⟩ := hrel
        have hbo := borW_01 x y (j + q)
        by_cases hb0 : borW x y (j + q) = 0
        · have hO2 : Own w.heap.size s (difW x y) wr := hO.congr fun i hi => by
            unfold subZ
            by_cases e : i < j + q
            · rw [if_pos e]
            · rw [if_neg e]; exact ((borW_stop hx zy (by omega) hb0 i (by omega)).2).symm
          have hN2 := hO2.num (difW_words x y) 0 s s (by omega) (Nat.le_refl _) (by unfold maxLen; omega)
          have hbr := bare_any (some ⟨w.heap.size, 0, none⟩) s s (segW (difW x y) 0 s) wr (by omega) hN2
          have HN2 : Hid (Num wr (some ⟨w.heap.size, 0, none⟩) (sizeL (segW (difW x y) 0 s) s) s (segW (difW x y) 0 s)) := hN2.bare
          have HV2 : Hid (val (segW (difW x y) 0 s) (sizeL (segW (difW x y) 0 s) s) = val x s - val y j) := by
            show _ = _
            rw [val_bare, val_congr (x := segW (difW x y) 0 s) (y := difW x y) s fun i hi => by rw [segW_lt _ 0 s i hi, Nat.zero_add], HV.out]
          have HS2 : Hid (sizeL (segW (difW x y) 0 s) (sizeL (segW (difW x y) 0 s) s) = sizeL (segW (difW x y) 0 s) s) := sizeL_sizeL _ _
          have HLE : Hid (sizeL (segW (difW x y) 0 s) s ≤ s) := sizeL_le _ _
          generalize segW (difW x y) 0 s = z at *
          generalize sizeL z s = k at *
          have HF2 : Hid (∀ i, wr.frozen? ⟨w.heap.size, i, none⟩ = false) := fun i => hO.frozen i
          have HB2 : Hid (Below w.heap.size w wr) := hBw1.trans (hU.below (Nat.le_refl _))
          rw [hb0]
          clear hO hO2 hU hN2 hx hy zy hend HV
          go_wp2_with (go_at_call 62; refine hbr.mono ?_; rintro e w3 ⟨rfl, rfl⟩)
          go_ret2
          exact ⟨_, k, s, z, rfl, HLE.out, HN2.out, HV2.out, HS2.out, HB2.out, Nat.le_refl _, HF2.out⟩
        · have hlt2 : j + q < s := by
            rcases Nat.lt_or_ge (j + q) s with h' | h'
            · exact h'
            · obtain e : j + q = s := by omega
              rw [e] at hb0; exact absurd hend hb0
          have hpos : 0 < borW x y (j + q) := by omega
          have hji : (j : Int) + q < s := by omega
          have e1 : ((j : Int) + q).toNat = j + q := by omega
          have hco := hO.cell (j + q) hlt2
          rw [subZ_at] at hco
          have hfo := hO.frozen (j + q)
          have bx := hx (j + q)
          have hs : difW x y (j + q) = (x (j + q) - borW x y (j + q)) % 18446744073709551616 := by unfold difW; rw [zy _ (by omega), Int.sub_zero]
          have HC : Hid (borW x y (j + (q + 1)) = bor (x (j + q)) 0 (borW x y (j + q))) := by
            show bor (x (j + q)) (y (j + q)) (borW x y (j + q)) = _
            rw [zy _ (by omega)]
          have hadd := fun w => sub64 (x (j + q)) 0 (borW x y (j + q)) bx.1 (by decide) (by decide) hbo.1 hbo.2 w
          have HO : Hid (Own w.heap.size s (subZ x y (j + (q + 1))) (wr.setCell ⟨w.heap.size, j + q, none⟩ (.int .u64 (difW x y (j + q))))) := (hO.set (j + q) _).congr fun i _ => subZ_next x y (j + q) i
          have HU : Hid (Upd w.heap.size w1 (wr.setCell ⟨w.heap.size, j + q, none⟩ (.int .u64 (difW x y (j + q))))) := hU.set (j + q) _
          rw [hs] at HO HU
          clear hO hU hx hy zy hb0 hs hend
          go_wp2
          go_roundw
          case rel => exact ⟨q + 1, by omega, by go_num, by rw [HC.out], HO.out, HU.out⟩
          case measure => simp [intOf]; omega
end Go.Proofs.YtmommdhnogogdaaGreatDoor
