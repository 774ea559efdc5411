/-
  Texts that the proof leans on.
-/
import Derived.Test.YtehgnckgmdkfmaaGreatDoorJ11
import Derived.Test.YtehgnckgmdkfmaaGreatDoorJ3
import Derived.Test.YtehgnckgmdkfmaaGreatDoorJ9
import Derived.Deep.Cut
set_option linter.unusedVariables false
set_option linter.unusedSectionVars false
set_option linter.unusedSimpArgs false
set_option maxRecDepth 20000
namespace Go.Proofs.YtehgnckgmdkfmaaGreatDoor
open Go.RowKit
section
def knB (d : Int) : Prop := 0 ≤ d ∧ d ≤ 4
instance (d : Int) : Decidable (knB d) := inferInstanceAs (Decidable (_ ∧ _))
theorem known_any (d : Int) (w : World) : Calls Tryz.prog 35 #[.int .i64 d] w fun e w' => e = .returned (.bool (decide (knB d))) ∧ w = w' := by
  by_cases h1 : 0 ≤ d
  · by_cases h2 : d ≤ 4
    · rw [decide_eq_true (show knB d from ⟨h1, h2⟩)]
      go_enter Tryz.func35, Tryz.ntmps35
      go_wp2
      go_ret
      exact ⟨rfl, rfl⟩
    · rw [decide_eq_false (show ¬ knB d from fun h => h2 h.2)]
      go_enter Tryz.func35, Tryz.ntmps35
      go_wp2
      go_ret
      exact ⟨rfl, rfl⟩
  · rw [decide_eq_false (show ¬ knB d from fun h => h1 h.1)]
    go_enter Tryz.func35, Tryz.ntmps35
    go_wp2
    go_ret
    exact ⟨rfl, rfl⟩
/-- does what overflows become infinite -/
def inB (d : Int) (s : Bool) : Bool := if d = 0 ∨ d = 1 then true else if d = 3 then !s else if d = 4 then s else false
set_option maxHeartbeats 400000 in
theorem infinite_any (d : Int) (s : Bool) (w : World) : Calls Tryz.prog 149 #[.int .i64 d, .bool s] w fun e w' => e = .returned (.bool (inB d s)) ∧ w = w' := by
  by_cases h0 : d = 0
  · subst h0
    go_enter Tryz.func149, Tryz.ntmps149
    go_wp2
    go_ret
    exact ⟨rfl, rfl⟩
  · by_cases h1 : d = 1
    · subst h1
      go_enter Tryz.func149, Tryz.ntmps149
      go_wp2
      go_ret
      exact ⟨rfl, rfl⟩
    · by_cases h3 : d = 3
      · subst h3
        go_enter Tryz.func149, Tryz.ntmps149
        go_wp2
        go_ret
        exact ⟨rfl, rfl⟩
      · by_cases h4 : d = 4
        · subst h4
          go_enter Tryz.func149, Tryz.ntmps149
          go_wp2
          go_ret
          exact ⟨rfl, rfl⟩
        · have e : inB d s = false := by unfold inB; simp [h0, h1, h3, h4]
          have b0 : (d == 0) = false := by simpa using h0
          have b1 : (d == 1) = false := by simpa using h1
          have b3 : (d == 3) = false := by simpa using h3
          have b4 : (d == 4) = false := by simpa using h4
          rw [e]
          go_enter Tryz.func149, Tryz.ntmps149
          go_wp2
          go_ret
          exact ⟨rfl, rfl⟩
/-- is the neighbour farther from nought taken -/
def faB (d : Int) (s odd : Bool) (R D : Nat) : Bool := if R = 0 then false else if d = 0 then decide (D < R + R) || (decide (R + R = D) && odd) else if d = 1 then decide (D ≤ R + R) else inB d s
theorem sgn_ways (a b : Int) : (a < b ∧ sgn a b = -1) ∨ (a = b ∧ sgn a b = 0) ∨ (b < a ∧ sgn a b = 1) := by
  unfold sgn
  by_cases h : a < b
  · exact Or.inl ⟨h, if_pos h⟩
  · by_cases h' : b < a
    · exact Or.inr (Or.inr ⟨h', by rw [if_neg h, if_pos h']⟩)
    · exact Or.inr (Or.inl ⟨by omega, by rw [if_neg h, if_neg h']⟩)
section
variable (d : Int) (s odd : Bool) (R D : Nat) (vr vd : Value) (w : World)
  (c26 : ∀ W, Below w.heap.size w W → Calls Tryz.prog 72 #[vr] W fun e w' => e = .returned (.int .i64 (bl R : Int)) ∧ W = w')
include c26
set_option maxHeartbeats 400000 in
theorem far_zero (h : R = 0) : Calls Tryz.prog 144 #[.int .i64 d, .bool s, .bool odd, vr, vd] w fun e w' => e = .returned (.bool false) ∧ Below w.heap.size w w' := by
  have hb : (((bl R : Nat) : Int) == 0) = true := by rw [h]; decide
  go_enter Tryz.func144, Tryz.ntmps144
  go_wp2_with (go_at_call 72; refine (c26 _ bgo).mono ?_; rintro e w1 ⟨rfl, rfl⟩)
  go_ret
  exact ⟨rfl, bgo⟩
variable (hv : Int) (hR : (((bl R : Nat) : Int) == 0) = false)
  (c61 : ∀ W, Below w.heap.size w W → Calls Tryz.prog 145 #[vr, vr] W fun e w' => ∃ r, e = .returned r ∧ (∀ W', Below w'.heap.size w' W' → Calls Tryz.prog 122 #[r, vd] W' fun e w'' => e = .returned (.int .i64 hv) ∧ Below W'.heap.size W' w'') ∧ Below W.heap.size W w')
include hR c61
set_option maxHeartbeats 400000 in
theorem far_0g (h : 0 < hv) : Calls Tryz.prog 144 #[.int .i64 0, .bool s, .bool odd, vr, vd] w fun e w' => e = .returned (.bool true) ∧ Below w.heap.size w w' := by
  go_enter Tryz.func144, Tryz.ntmps144
  go_wp2_with (first
    | (go_at_call 72; refine (c26 _ bgo).mono ?_; rintro e w1 ⟨rfl, rfl⟩)
    | (go_at_call 145; refine (c61 _ bgo).mono ?_; rintro e w2 ⟨v2, rfl, c58, hb2⟩; have hA2 := bnx (w0 := w) bgo hb2)
    | (go_at_call 122; refine (c58 _ (Below.refl _ _)).mono ?_; rintro e w3 ⟨rfl, hb3⟩; have hA3 := bnx (w0 := w) hA2 hb3)
    | (go_at_call 149; refine (infinite_any _ _ _).mono ?_; rintro e w4 ⟨rfl, rfl⟩))
  go_ret
  exact ⟨by first | rfl | (simp; omega), bgo⟩
set_option maxHeartbeats 400000 in
theorem far_0e (h : hv = 0) : Calls Tryz.prog 144 #[.int .i64 0, .bool s, .bool odd, vr, vd] w fun e w' => e = .returned (.bool odd) ∧ Below w.heap.size w w' := by
  subst h
  go_enter Tryz.func144, Tryz.ntmps144
  go_wp2_with (first
    | (go_at_call 72; refine (c26 _ bgo).mono ?_; rintro e w1 ⟨rfl, rfl⟩)
    | (go_at_call 145; refine (c61 _ bgo).mono ?_; rintro e w2 ⟨v2, rfl, c58, hb2⟩; have hA2 := bnx (w0 := w) bgo hb2)
    | (go_at_call 122; refine (c58 _ (Below.refl _ _)).mono ?_; rintro e w3 ⟨rfl, hb3⟩; have hA3 := bnx (w0 := w) hA2 hb3)
    | (go_at_call 149; refine (infinite_any _ _ _).mono ?_; rintro e w4 ⟨rfl, rfl⟩))
  go_ret
  exact ⟨by first | rfl | (simp; omega), bgo⟩
set_option maxHeartbeats 400000 in
theorem far_0l (h : ¬ 0 < hv) (h1 : (hv == 0) = false) : Calls Tryz.prog 144 #[.int .i64 0, .bool s, .bool odd, vr, vd] w fun e w' => e = .returned (.bool false) ∧ Below w.heap.size w w' := by
  go_enter Tryz.func144, Tryz.ntmps144
  go_wp2_with (first
    | (go_at_call 72; refine (c26 _ bgo).mono ?_; rintro e w1 ⟨rfl, rfl⟩)
    | (go_at_call 145; refine (c61 _ bgo).mono ?_; rintro e w2 ⟨v2, rfl, c58, hb2⟩; have hA2 := bnx (w0 := w) bgo hb2)
    | (go_at_call 122; refine (c58 _ (Below.refl _ _)).mono ?_; rintro e w3 ⟨rfl, hb3⟩; have hA3 := bnx (w0 := w) hA2 hb3)
    | (go_at_call 149; refine (infinite_any _ _ _).mono ?_; rintro e w4 ⟨rfl, rfl⟩))
  go_ret
  exact ⟨by first | rfl | (simp; omega), bgo⟩
set_option maxHeartbeats 400000 in
theorem far_1g (h : 0 ≤ hv) : Calls Tryz.prog 144 #[.int .i64 1, .bool s, .bool odd, vr, vd] w fun e w' => e = .returned (.bool true) ∧ Below w.heap.size w w' := by
  go_enter Tryz.func144, Tryz.ntmps144
  go_wp2_with (first
    | (go_at_call 72; refine (c26 _ bgo).mono ?_; rintro e w1 ⟨rfl, rfl⟩)
    | (go_at_call 145; refine (c61 _ bgo).mono ?_; rintro e w2 ⟨v2, rfl, c58, hb2⟩; have hA2 := bnx (w0 := w) bgo hb2)
    | (go_at_call 122; refine (c58 _ (Below.refl _ _)).mono ?_; rintro e w3 ⟨rfl, hb3⟩; have hA3 := bnx (w0 := w) hA2 hb3)
    | (go_at_call 149; refine (infinite_any _ _ _).mono ?_; rintro e w4 ⟨rfl, rfl⟩))
  go_ret
  exact ⟨by first | rfl | (simp; omega), bgo⟩
set_option maxHeartbeats 400000 in
theorem far_1l (h : ¬ 0 ≤ hv) : Calls Tryz.prog 144 #[.int .i64 1, .bool s, .bool odd, vr, vd] w fun e w' => e = .returned (.bool false) ∧ Below w.heap.size w w' := by
  go_enter Tryz.func144, Tryz.ntmps144
  go_wp2_with (first
    | (go_at_call 72; refine (c26 _ bgo).mono ?_; rintro e w1 ⟨rfl, rfl⟩)
    | (go_at_call 145; refine (c61 _ bgo).mono ?_; rintro e w2 ⟨v2, rfl, c58, hb2⟩; have hA2 := bnx (w0 := w) bgo hb2)
    | (go_at_call 122; refine (c58 _ (Below.refl _ _)).mono ?_; rintro e w3 ⟨rfl, hb3⟩; have hA3 := bnx (w0 := w) hA2 hb3)
    | (go_at_call 149; refine (infinite_any _ _ _).mono ?_; rintro e w4 ⟨rfl, rfl⟩))
  go_ret
  exact ⟨by first | rfl | (simp; omega), bgo⟩
set_option maxHeartbeats 400000 in
theorem far_d (h0 : (d == 0) = false) (h1 : (d == 1) = false) : Calls Tryz.prog 144 #[.int .i64 d, .bool s, .bool odd, vr, vd] w fun e w' => e = .returned (.bool (inB d s)) ∧ Below w.heap.size w w' := by
  go_enter Tryz.func144, Tryz.ntmps144
  go_wp2_with (first
    | (go_at_call 72; refine (c26 _ bgo).mono ?_; rintro e w1 ⟨rfl, rfl⟩)
    | (go_at_call 145; refine (c61 _ bgo).mono ?_; rintro e w2 ⟨v2, rfl, c58, hb2⟩; have hA2 := bnx (w0 := w) bgo hb2)
    | (go_at_call 122; refine (c58 _ (Below.refl _ _)).mono ?_; rintro e w3 ⟨rfl, hb3⟩; have hA3 := bnx (w0 := w) hA2 hb3)
    | (go_at_call 149; refine (infinite_any _ _ _).mono ?_; rintro e w4 ⟨rfl, rfl⟩))
  go_ret
  exact ⟨by first | rfl | (simp; omega), bgo⟩
end
theorem farther_v (d : Int) (s odd : Bool) {K K' R D : Nat} {vr vd : Value} {w : World} (hK : K < 1000000) (hK' : K' < 1000000) (h : Nt K R vr w) (h' : Nt K' D vd w) :
    Calls Tryz.prog 144 #[.int .i64 d, .bool s, .bool odd, vr, vd] w fun e w' => e = .returned (.bool (faB d s odd R D)) ∧ Below w.heap.size w w' := by
  have c26 := fun W (hb : Below w.heap.size w W) => nlen_v (by omega) (h.next hb)
  unfold faB
  by_cases hz : R = 0
  · rw [if_pos hz]; exact far_zero d s odd R vr vd w c26 hz
  · rw [if_neg hz]
    have hR : (((bl R : Nat) : Int) == 0) = false := by
      have : bl R ≠ 0 := fun e => hz (bl_zero.1 e)
      rw [beq_eq_false_iff_ne]; omega
    have c61 : ∀ W, Below w.heap.size w W → Calls Tryz.prog 145 #[vr, vr] W fun e w' => ∃ r, e = .returned r ∧ (∀ W', Below w'.heap.size w' W' → Calls Tryz.prog 122 #[r, vd] W' fun e w'' => e = .returned (.int .i64 (sgn ((R + R : Nat) : Int) (D : Int))) ∧ Below W'.heap.size W' w'') ∧ Below W.heap.size W w' := fun W hb =>
      (nadd_v (by omega) (by omega) (h.next hb) (h.next hb)).mono fun e w' ⟨r, h1, h2, h3⟩ => ⟨r, h1, fun W' hb' => ncmp_v (by omega) (by omega) (h2.nt.next hb') (h'.next (bnx (bnx hb h3) hb')), h3⟩
    by_cases h0 : d = 0
    · subst h0
      rw [if_pos rfl]
      rcases sgn_ways ((R + R : Nat) : Int) (D : Int) with ⟨a, e⟩ | ⟨a, e⟩ | ⟨a, e⟩
      · rw [e] at c61
        rw [decide_eq_false (show ¬ D < R + R by omega), decide_eq_false (show ¬ R + R = D by omega)]
        exact far_0l s odd R vr vd w c26 (-1) hR c61 (by decide) (by decide)
      · rw [e] at c61
        rw [decide_eq_false (show ¬ D < R + R by omega), decide_eq_true (show R + R = D by omega), Bool.false_or, Bool.true_and]
        exact far_0e s odd R vr vd w c26 0 hR c61 rfl
      · rw [e] at c61
        rw [decide_eq_true (show D < R + R by omega), Bool.true_or]
        exact far_0g s odd R vr vd w c26 1 hR c61 (by decide)
    · rw [if_neg h0]
      by_cases h1 : d = 1
      · subst h1
        rw [if_pos rfl]
        rcases sgn_ways ((R + R : Nat) : Int) (D : Int) with ⟨a, e⟩ | ⟨a, e⟩ | ⟨a, e⟩
        · rw [e] at c61
          rw [decide_eq_false (show ¬ D ≤ R + R by omega)]
          exact far_1l s odd R vr vd w c26 (-1) hR c61 (by decide)
        · rw [e] at c61
          rw [decide_eq_true (show D ≤ R + R by omega)]
          exact far_1g s odd R vr vd w c26 0 hR c61 (by decide)
        · rw [e] at c61
          rw [decide_eq_true (show D ≤ R + R by omega)]
          exact far_1g s odd R vr vd w c26 1 hR c61 (by decide)
      · rw [if_neg h1]
        exact far_d d s odd R vr vd w c26 _ hR c61 (by simpa using h0) (by simpa using h1)
theorem raised_any (x s : Bool) (w : World) : Calls Tryz.prog 126 #[.bool x, .bool s] w fun e w' => e = .returned (.int .i64 (if x then 0 else if s then 12 else 8)) ∧ w = w' := by
  cases x <;> cases s
  all_goals (
    go_enter Tryz.func126, Tryz.ntmps126
    go_wp2
    go_ret
    exact ⟨rfl, rfl⟩)
end
section
theorem nz_more2 {K V : Nat} {v : Value} {w w' : World} (h : Nz K V v w) (hb : Below w.heap.size w w') : Nz (K + 2) V v w' := by
  obtain ⟨a, k, cap, z, rfl, hk, hN, hv, hs⟩ := h
  exact ⟨a, k, cap, z, rfl, by omega, hN.next hb, hv, hs⟩
theorem nt_w1 {W : World} {g V : Nat} {vi : Int} (hg : g = W.heap.size) (hv : vi = (V : Int)) (hb : V < 18446744073709551616) : Nt 1 V (.slice (some ⟨g, 0, none⟩) 1 1) (W.alloc (.cells #[.int .u64 vi] 22)) := by
  subst hg hv
  exact ⟨_, 1, 1, oneW V, rfl, Nat.le_refl _, num_one W V (by omega), val_one1 V⟩
section
variable (d : Int) (s odd far : Bool) (vn vd : Value) (Q R D : Nat) (w : World) (hvb : Nt 2001 D vd w)
  (c59 : Calls Tryz.prog 143 #[vn, vd] w fun e w' => ∃ q r, e = .returned (.tuple #[q, r, .int .i64 0]) ∧ Nz 2001 Q q w' ∧ Nz 2001 R r w' ∧ Below w.heap.size w w')
  (c60 : ∀ W vr vb, Nt 2001 R vr W → Nt 2001 D vb W → Calls Tryz.prog 144 #[.int .i64 d, .bool s, .bool odd, vr, vb] W fun e w' => e = .returned (.bool far) ∧ Below W.heap.size W w')
  (c26 : ∀ W vr, Nt 2001 R vr W → Calls Tryz.prog 72 #[vr] W fun e w' => e = .returned (.int .i64 (bl R : Int)) ∧ W = w')
  (c61 : ∀ W q v, Nt 2001 Q q W → Nt 1 1 v W → Calls Tryz.prog 145 #[q, v] W fun e w' => ∃ r, e = .returned r ∧ Nz 2003 (Q + 1) r w' ∧ Below W.heap.size W w')
  (hodd : ∀ k z, Words z → val z k = (Q : Int) → 0 < k → (bits BinOp.and IntKind.u64 (z 0) 1 == 1) = odd)
  (hodd0 : Q = 0 → odd = false)
include hvb c59 c60 c26 c61 hodd hodd0
set_option maxHeartbeats 2000000 in
theorem whole_cw : Calls Tryz.prog 121 #[.int .i64 d, .bool s, vn, vd] w fun e w' => ∃ v, e = .returned (.tuple #[v, .bool (((bl R : Nat) : Int) == 0)]) ∧ Nz 2003 (if far then Q + 1 else Q) v w' ∧ Below w.heap.size w w' := by
  go_enter Tryz.func121, Tryz.ntmps121
  go_upto_region 2 with (go_at_call 143; refine c59.mono ?_; rintro e w2 ⟨q, r, rfl, hq, hr, hb2⟩)
  replace hvb := hvb.next hb2
  have hq' := hq
  obtain ⟨aq, kq, cq, zq, rfl, hkq, hNq, hvq, hsq⟩ := hq
  go_cut [12] from 13 (fun o wc => o = .bool odd ∧ wc = w2)
  case first =>
    rcases Nat.eq_zero_or_pos kq with hk0 | hk0
    · have h0 : Q = 0 := by
        subst hk0
        have : val zq 0 = 0 := rfl
        omega
      have ho := hodd0 h0
      subst ho hk0
      clear hodd hodd0 c59 c60 c61 c26
      go_wp2
      go_meet
      exact ⟨rfl, rfl⟩
    · have ho := hodd kq zq hNq.2.2.1 hvq hk0
      have hki : (0 : Int) < kq := by omega
      have hz0 := hNq.2.2.1 0
      obtain ⟨n1, n2, n3, n4, n5⟩ := hNq
      rcases n5 with ⟨_, n6⟩ | ⟨b, off, rfl, n7, n8⟩
      · omega
      · have hc0 := n8 0 hk0
        rw [Nat.add_zero] at hc0
        subst ho
        clear hodd hodd0 c59 c60 c61 c26
        go_wp2
        go_meet
        exact ⟨rfl, rfl⟩
  case rest =>
    obtain ⟨rfl, rfl⟩ := hcut
    clear hNq hvq hsq hodd hodd0 c59
    cases far with
    | false =>
      go_wp2_with (first
        | (go_at_call 144; refine (c60 _ _ _ hr.nt hvb).mono ?_; rintro e w3 ⟨rfl, hb3⟩)
        | (go_at_call 72; refine (c26 _ _ (hr.nt.next hb3)).mono ?_; rintro e w4 ⟨rfl, rfl⟩))
      exact bodyPost_ret (v := .tuple #[_, _]) (by simp only [results, Tryz.results121]; go_simp) rfl ⟨_, rfl, nz_more2 hq' hb3, bnx hb2 hb3⟩
    | true =>
      go_wp2_with (first
        | (go_at_call 144; refine (c60 _ _ _ hr.nt hvb).mono ?_; rintro e w3 ⟨rfl, hb3⟩)
        | (go_at_call 145; refine (c61 _ _ _ (hq'.nt.next (bnx hb3 bgo)) (nt_w1 (by simp) rfl (by decide))).mono ?_; rintro e w4 ⟨v4, rfl, h4, hb4⟩; have hA4 : Below wc.heap.size wc w4 := bnx (bnx hb3 bgo) hb4)
        | (go_at_call 72; refine (c26 _ _ (hr.nt.next hA4)).mono ?_; rintro e w5 ⟨rfl, rfl⟩))
      exact bodyPost_ret (v := .tuple #[v4, _]) (by simp only [results, Tryz.results121]; go_simp) rfl ⟨_, rfl, h4, bnx hb2 hA4⟩
end
theorem odd_low {k Q : Nat} {z : Nat → Int} (hz : Words z) (hv : val z k = (Q : Int)) (hk : 0 < k) : (bits BinOp.and IntKind.u64 (z 0) 1 == 1) = decide (Q % 2 = 1) := by
  have hb := hz 0
  rw [show (1 : Int) = 2 ^ 1 - 1 by decide, and_mask hb (by decide)]
  obtain ⟨k', rfl⟩ : ∃ k', k = 1 + k' := ⟨k - 1, by omega⟩
  have hs := val_split z 1 k'
  rw [hv] at hs
  have h10 : val z 1 = z 0 := by show val z 0 + z 0 * 18446744073709551616 ^ 0 = z 0; simp [val]
  rw [h10, Int.pow_one] at hs
  rcases Nat.mod_two_eq_zero_or_one Q with e | e
  · rw [decide_eq_false (by omega)]
    rw [beq_eq_false_iff_ne]; omega
  · rw [decide_eq_true e]
    rw [beq_iff_eq]; omega
theorem bl_nought (R : Nat) : (((bl R : Nat) : Int) == 0) = decide (R = 0) := by
  by_cases hz : R = 0
  · rw [hz]; rfl
  · rw [decide_eq_false hz, beq_eq_false_iff_ne]
    have := mt bl_zero.1 hz
    omega
/-- a fraction rounded to a whole number, and whether it is one -/
theorem whole_cv (d : Int) (s : Bool) {N D : Nat} {vn vd : Value} {w : World} (h : Nt 2001 N vn w) (h' : Nt 2001 D vd w) (hD : D ≠ 0) (h1 : bl N ≤ 128000) (h2 : bl D ≤ 128000) :
    Calls Tryz.prog 121 #[.int .i64 d, .bool s, vn, vd] w fun e w' => ∃ v, e = .returned (.tuple #[v, .bool (decide (N % D = 0))]) ∧ Nz 2003 (if faB d s (decide (N / D % 2 = 1)) (N % D) D then N / D + 1 else N / D) v w' ∧ Below w.heap.size w w' := by
  refine (whole_cw d s (decide (N / D % 2 = 1)) (faB d s (decide (N / D % 2 = 1)) (N % D) D) vn vd (N / D) (N % D) D w h' (ndiv_v (by decide) (by decide) h h' h1 h2 hD) (fun W vr vb a b => farther_v d s _ (by decide) (by decide) a b) (fun W vr a => nlen_v (by decide) a) (fun W q v a b => nadd_v (by decide) (by decide) a b) (fun k z hz hv hk => odd_low hz hv hk) ?_).mono ?_
  · intro h0
    rw [h0]; rfl
  · rintro e w' ⟨v, e1, e2, e3⟩
    rw [bl_nought] at e1
    exact ⟨v, e1, e2, e3⟩
end
end Go.Proofs.YtehgnckgmdkfmaaGreatDoor
