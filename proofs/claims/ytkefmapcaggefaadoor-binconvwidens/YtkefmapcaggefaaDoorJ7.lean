/-
  Texts that the proof leans on, joined: Nw, Kn, Npw, Sd.
-/
import Derived.Test.YtkefmapcaggefaaDoorJ6
import Derived.Test.YtkefmapcaggefaaDoorJ1
import Derived.Test.YtkefmapcaggefaaDoorJ4
import Derived.Deep.Cut
import Derived.Deep.CutRange
set_option linter.unusedVariables false
set_option linter.unusedSectionVars false
set_option linter.unusedSimpArgs false
set_option maxRecDepth 20000
namespace Go.Proofs.YtkefmapcaggefaaDoor
open Go.RowKit

theorem bnx {w0 W W' : World} (h : Below w0.heap.size w0 W) (hb : Below W.heap.size W W') : Below w0.heap.size w0 W' := h.trans (hb.mono h.size)
/-- how many bits a number has -/
def bl (V : Nat) : Nat := if V = 0 then 0 else Nat.log2 V + 1
theorem bl_le {V k : Nat} : bl V ≤ k ↔ V < 2 ^ k := by
  unfold bl
  by_cases h : V = 0
  · subst h; simp; exact Nat.two_pow_pos k
  · rw [if_neg h]
    have := Nat.log2_lt h (k := k)
    omega
theorem bl_ge {V k : Nat} : k < bl V ↔ 2 ^ k ≤ V := by
  have := bl_le (V := V) (k := k)
  omega
theorem bl_zero {V : Nat} : bl V = 0 ↔ V = 0 := by
  unfold bl; by_cases h : V = 0 <;> simp [h]
theorem bl_eq {V L : Nat} (h1 : 2 ^ (L - 1) ≤ V) (h2 : V < 2 ^ L) : bl V = L := by
  have a := bl_le.2 h2
  by_cases h : L = 0
  · omega
  · have b := bl_ge.2 h1
    omega
/-- a number in a list of words, at most K of them -/
def Nt (K V : Nat) (v : Value) (w : World) : Prop := ∃ a k cap z, v = .slice a k cap ∧ k ≤ K ∧ Num w a k cap z ∧ val z k = (V : Int)
theorem Nt.next {K V : Nat} {v : Value} {w w' : World} (h : Nt K V v w) (hb : Below w.heap.size w w') : Nt K V v w' := by
  obtain ⟨a, k, cap, z, h1, h2, h3, h4⟩ := h
  exact ⟨a, k, cap, z, h1, h2, h3.next hb, h4⟩
theorem Nt.more {K K' V : Nat} {v : Value} {w : World} (h : Nt K V v w) (hk : K ≤ K') : Nt K' V v w := by
  obtain ⟨a, k, cap, z, h1, h2, h3, h4⟩ := h
  exact ⟨a, k, cap, z, h1, by omega, h3, h4⟩
/-- without noughts at its end -/
def Nz (K V : Nat) (v : Value) (w : World) : Prop := ∃ a k cap z, v = .slice a k cap ∧ k ≤ K ∧ Num w a k cap z ∧ val z k = (V : Int) ∧ sizeL z k = k
theorem Nz.next {K V : Nat} {v : Value} {w w' : World} (h : Nz K V v w) (hb : Below w.heap.size w w') : Nz K V v w' := by
  obtain ⟨a, k, cap, z, h1, h2, h3, h4, h5⟩ := h
  exact ⟨a, k, cap, z, h1, h2, h3.next hb, h4, h5⟩
theorem Nz.nt {K V : Nat} {v : Value} {w : World} (h : Nz K V v w) : Nt K V v w := by
  obtain ⟨a, k, cap, z, h1, h2, h3, h4, h5⟩ := h
  exact ⟨a, k, cap, z, h1, h2, h3, h4⟩
theorem size_zero {z : Nat → Int} {k V : Nat} (hz : Words z) (hv : val z k = (V : Int)) : sizeL z k = 0 ↔ V = 0 := by
  constructor
  · intro h
    have := val_bare (x := z) k
    rw [h] at this
    have h0 : val z 0 = 0 := rfl
    omega
  · intro h
    subst h
    rcases Nat.eq_zero_or_pos (sizeL z k) with h | h
    · exact h
    · exfalso
      have := val_longer (x := z) (y := z) hz hz (n := 0) (m := sizeL z k) h (sizeL_sizeL z k)
      rw [val_bare] at this
      have h0 : val z 0 = 0 := rfl
      omega
theorem len_bl {z : Nat → Int} {k V : Nat} (hz : Words z) (hv : val z k = (V : Int)) : lenL z k = (bl V : Int) := by
  rcases Nat.eq_zero_or_pos (sizeL z k) with h | h
  · have h0 := (size_zero hz hv).1 h
    unfold lenL; rw [if_pos h, h0]; rfl
  · obtain ⟨L, h1, h2, h3⟩ := len_bd hz h
    rw [hv] at h2 h3
    have e : bl V = L + 1 := by
      have e1 : ((2 : Int) ^ L) = ((2 ^ L : Nat) : Int) := by simp
      have e2 : ((2 : Int) ^ (L + 1)) = ((2 ^ (L + 1) : Nat) : Int) := by simp
      rw [e1] at h2
      rw [e2] at h3
      exact bl_eq (by rw [Nat.add_sub_cancel]; omega) (by omega)
    rw [e, h1]; omega
/-- how many words -/
theorem size_bl {z : Nat → Int} {k V m : Nat} (hz : Words z) (hv : val z k = (V : Int)) : sizeL z k ≤ m ↔ bl V ≤ 64 * m := by
  have hl := len_bl hz hv
  unfold lenL at hl
  rcases Nat.eq_zero_or_pos (sizeL z k) with h | h
  · rw [if_pos h] at hl; omega
  · rw [if_neg (by omega)] at hl
    have ht := sizeL_top k h
    have hw := hz (sizeL z k - 1)
    have hb := bitLen_spec (z (sizeL z k - 1)).toNat (by omega) (by omega)
    omega
theorem nlen_v {K V : Nat} {v : Value} {w : World} (hK : K < 100000000) (h : Nt K V v w) :
    Calls Tryd.prog 48 #[v] w fun e w' => e = .returned (.int .i64 (bl V : Int)) ∧ w = w' := by
  obtain ⟨a, k, cap, z, rfl, hk, hN, hv⟩ := h
  refine (nlen_any a k cap z w (by omega) hN).mono fun e w' ⟨h1, h2⟩ => ⟨?_, h2⟩
  rw [h1, len_bl hN.2.2.1 hv]
theorem nshl_v {K V : Nat} {v : Value} {w : World} (d : Nat) (hK : K < 100000000) (h : Nt K V v w) (hd : bl V + d ≤ 127000) :
    Calls Tryd.prog 68 #[v, .int .i64 (d : Int)] w fun e w' => ∃ r, e = .returned (.tuple #[r, .int .i64 0]) ∧ Nz 2001 (V * 2 ^ d) r w' ∧ Below w.heap.size w w' := by
  obtain ⟨a, k, cap, z, rfl, hk, hN, hv⟩ := h
  have hs := (size_bl (m := (bl V + 63) / 64) hN.2.2.1 hv).2 (by omega)
  refine (nshl_any a k cap z d w (by omega) hN (by omega) (by omega)).mono fun e w' ⟨g, k', cap', z', h1, h2, h3, h4, h5, h6⟩ => ⟨_, h1, ⟨_, k', cap', z', rfl, h2, h3, ?_, h5⟩, h6⟩
  rw [h4, hv]; simp
theorem ncmp_v {K K' V V' : Nat} {v v' : Value} {w : World} (hK : K < 100000000) (hK' : K' < 100000000) (h : Nt K V v w) (h' : Nt K' V' v' w) :
    Calls Tryd.prog 60 #[v, v'] w fun e w' => e = .returned (.int .i64 (sgn (V : Int) (V' : Int))) ∧ Below w.heap.size w w' := by
  obtain ⟨a, k, cap, z, rfl, hk, hN, hv⟩ := h
  obtain ⟨a', k', cap', z', rfl, hk', hN', hv'⟩ := h'
  have := ncmp_b a a' k cap k' cap' z z' w (by omega) (by omega) hN hN'
  rw [hv, hv'] at this
  exact this
theorem nadd_v {K K' V V' : Nat} {v v' : Value} {w : World} (hK : K < 100000000) (hK' : K' < 100000000) (h : Nt K V v w) (h' : Nt K' V' v' w) :
    Calls Tryd.prog 63 #[v, v'] w fun e w' => ∃ r, e = .returned r ∧ Nz (K + K' + 1) (V + V') r w' ∧ Below w.heap.size w w' := by
  obtain ⟨a, k, cap, z, rfl, hk, hN, hv⟩ := h
  obtain ⟨a', k', cap', z', rfl, hk', hN', hv'⟩ := h'
  have s1 := sizeL_le z k
  have s2 := sizeL_le z' k'
  refine (nadd_any a a' k cap k' cap' z z' w (by omega) (by omega) hN hN').mono fun e w' ⟨g, k2, cap2, z2, h1, h2, h3, h4, h5, h6⟩ => ⟨_, h1, ⟨_, k2, cap2, z2, rfl, by omega, h3, ?_, h5⟩, h6⟩
  rw [h4, hv, hv']; omega
theorem ndiv_v {K K' V V' : Nat} {v v' : Value} {w : World} (hK : K < 100000000) (hK' : K' < 100000000) (h : Nt K V v w) (h' : Nt K' V' v' w) (hb : bl V ≤ 128000) (hb' : bl V' ≤ 128000) (h0 : V' ≠ 0) :
    Calls Tryd.prog 61 #[v, v'] w fun e w' => ∃ q r, e = .returned (.tuple #[q, r, .int .i64 0]) ∧ Nz 2001 (V / V') q w' ∧ Nz 2001 (V % V') r w' ∧ Below w.heap.size w w' := by
  obtain ⟨a, k, cap, z, rfl, hk, hN, hv⟩ := h
  obtain ⟨a', k', cap', z', rfl, hk', hN', hv'⟩ := h'
  have s1 := (size_bl (m := 2000) hN.2.2.1 hv).2 (by omega)
  have s2 := (size_bl (m := 2000) hN'.2.2.1 hv').2 (by omega)
  have s3 : 0 < sizeL z' k' := Nat.pos_of_ne_zero fun e => h0 ((size_zero hN'.2.2.1 hv').1 e)
  refine (ndiv_any a a' k cap k' cap' z z' w (by omega) (by omega) hN hN' s1 s2 s3).mono fun e w' ⟨o, k2, cap2, z2, o', k3, cap3, z3, h1, h2, h3, h4, h5, h6, h7, h8, h9, h10⟩ => ⟨_, _, h1, ⟨_, _, _, _, rfl, h2, h4, ?_, h8⟩, ⟨_, _, _, _, rfl, h3, h5, ?_, h9⟩, h10⟩
  · rw [h6, hv, hv']; simp
  · rw [h7, hv, hv']; simp
theorem nshr_v {K V : Nat} {v : Value} {w : World} (hK : K < 100000000) (h : Nt K V v w) :
    Calls Tryd.prog 55 #[v, .int .i64 1] w fun e w' => ∃ r b, e = .returned (.tuple #[r, .bool b]) ∧ Nz K (V / 2) r w' ∧ Below w.heap.size w w' := by
  obtain ⟨a, k, cap, z, rfl, hk, hN, hv⟩ := h
  refine (nshr_all a k cap z 1 w (by omega) hN (by decide)).mono fun e w' ⟨o, k2, cap2, h1, h2, h3, h4, h5⟩ => ⟨_, _, h1, ⟨_, _, _, _, rfl, by omega, h3, ?_, h4⟩, h5⟩
  have hz := h3.2.2.2.1
  have e1 : shrF z 1 = shrW z 0 1 := by unfold shrF; rw [if_neg (by decide)]; rfl
  rw [← val_more hz k h2, e1]
  exact shrW_val hN.2.2.1 hN.2.2.2.1 (by decide) k (Nat.le_refl _) hv
end Go.Proofs.YtkefmapcaggefaaDoor

namespace Go.Proofs.YtkefmapcaggefaaDoor
open Go.RowKit

def knB (d : Int) : Prop := 0 ≤ d ∧ d ≤ 4
instance (d : Int) : Decidable (knB d) := inferInstanceAs (Decidable (_ ∧ _))
theorem known_any (d : Int) (w : World) : Calls Tryd.prog 27 #[.int .i64 d] w fun e w' => e = .returned (.bool (decide (knB d))) ∧ w = w' := by
  by_cases h1 : 0 ≤ d
  · by_cases h2 : d ≤ 4
    · rw [decide_eq_true (show knB d from ⟨h1, h2⟩)]
      go_enter Tryd.func27, Tryd.ntmps27
      go_wp2
      go_ret
      exact ⟨rfl, rfl⟩
    · rw [decide_eq_false (show ¬ knB d from fun h => h2 h.2)]
      go_enter Tryd.func27, Tryd.ntmps27
      go_wp2
      go_ret
      exact ⟨rfl, rfl⟩
  · rw [decide_eq_false (show ¬ knB d from fun h => h1 h.1)]
    go_enter Tryd.func27, Tryd.ntmps27
    go_wp2
    go_ret
    exact ⟨rfl, rfl⟩
/-- does what overflows become infinite -/
def inB (d : Int) (s : Bool) : Bool := if d = 0 ∨ d = 1 then true else if d = 3 then !s else if d = 4 then s else false
set_option maxHeartbeats 400000 in
theorem infinite_any (d : Int) (s : Bool) (w : World) : Calls Tryd.prog 66 #[.int .i64 d, .bool s] w fun e w' => e = .returned (.bool (inB d s)) ∧ w = w' := by
  by_cases h0 : d = 0
  · subst h0
    go_enter Tryd.func66, Tryd.ntmps66
    go_wp2
    go_ret
    exact ⟨rfl, rfl⟩
  · by_cases h1 : d = 1
    · subst h1
      go_enter Tryd.func66, Tryd.ntmps66
      go_wp2
      go_ret
      exact ⟨rfl, rfl⟩
    · by_cases h3 : d = 3
      · subst h3
        go_enter Tryd.func66, Tryd.ntmps66
        go_wp2
        go_ret
        exact ⟨rfl, rfl⟩
      · by_cases h4 : d = 4
        · subst h4
          go_enter Tryd.func66, Tryd.ntmps66
          go_wp2
          go_ret
          exact ⟨rfl, rfl⟩
        · have e : inB d s = false := by unfold inB; simp [h0, h1, h3, h4]
          have b0 : (d == 0) = false := by simpa using h0
          have b1 : (d == 1) = false := by simpa using h1
          have b3 : (d == 3) = false := by simpa using h3
          have b4 : (d == 4) = false := by simpa using h4
          rw [e]
          go_enter Tryd.func66, Tryd.ntmps66
          go_wp2
          go_ret
          exact ⟨rfl, rfl⟩
/-- is the neighbour farther from nought taken -/
def faB (d : Int) (s odd : Bool) (R D : Nat) : Bool := if R = 0 then false else if d = 0 then decide (D < R + R) || (decide (R + R = D) && odd) else if d = 1 then decide (D ≤ R + R) else inB d s
theorem sgn_ways (a b : Int) : (a < b ∧ sgn a b = -1) ∨ (a = b ∧ sgn a b = 0) ∨ (b < a ∧ sgn a b = 1) := by
  unfold sgn
  by_cases h : a < b
  · exact Or.inl ⟨h, if_pos h⟩
  · by_cases h' : b < a
    · exact Or.inr (Or.inr ⟨h', by rw [if_neg h, if_pos h']⟩)
    · exact Or.inr (Or.inl ⟨by omega, by rw [if_neg h, if_neg h']⟩)
section
variable (d : Int) (s odd : Bool) (R D : Nat) (vr vd : Value) (w : World)
  (c26 : ∀ W, Below w.heap.size w W → Calls Tryd.prog 48 #[vr] W fun e w' => e = .returned (.int .i64 (bl R : Int)) ∧ W = w')
include c26
set_option maxHeartbeats 400000 in
theorem far_zero (h : R = 0) : Calls Tryd.prog 62 #[.int .i64 d, .bool s, .bool odd, vr, vd] w fun e w' => e = .returned (.bool false) ∧ Below w.heap.size w w' := by
  have hb : (((bl R : Nat) : Int) == 0) = true := by rw [h]; decide
  go_enter Tryd.func62, Tryd.ntmps62
  go_wp2_with (go_at_call 48; refine (c26 _ bgo).mono ?_; rintro e w1 ⟨rfl, rfl⟩)
  go_ret
  exact ⟨rfl, bgo⟩
variable (hv : Int) (hR : (((bl R : Nat) : Int) == 0) = false)
  (c61 : ∀ W, Below w.heap.size w W → Calls Tryd.prog 63 #[vr, vr] W fun e w' => ∃ r, e = .returned r ∧ (∀ W', Below w'.heap.size w' W' → Calls Tryd.prog 60 #[r, vd] W' fun e w'' => e = .returned (.int .i64 hv) ∧ Below W'.heap.size W' w'') ∧ Below W.heap.size W w')
include hR c61
set_option maxHeartbeats 400000 in
theorem far_0g (h : 0 < hv) : Calls Tryd.prog 62 #[.int .i64 0, .bool s, .bool odd, vr, vd] w fun e w' => e = .returned (.bool true) ∧ Below w.heap.size w w' := by
  go_enter Tryd.func62, Tryd.ntmps62
  go_wp2_with (first
    | (go_at_call 48; refine (c26 _ bgo).mono ?_; rintro e w1 ⟨rfl, rfl⟩)
    | (go_at_call 63; refine (c61 _ bgo).mono ?_; rintro e w2 ⟨v2, rfl, c58, hb2⟩; have hA2 := bnx (w0 := w) bgo hb2)
    | (go_at_call 60; refine (c58 _ (Below.refl _ _)).mono ?_; rintro e w3 ⟨rfl, hb3⟩; have hA3 := bnx (w0 := w) hA2 hb3)
    | (go_at_call 66; refine (infinite_any _ _ _).mono ?_; rintro e w4 ⟨rfl, rfl⟩))
  go_ret
  exact ⟨by first | rfl | (simp; omega), bgo⟩
set_option maxHeartbeats 400000 in
theorem far_0e (h : hv = 0) : Calls Tryd.prog 62 #[.int .i64 0, .bool s, .bool odd, vr, vd] w fun e w' => e = .returned (.bool odd) ∧ Below w.heap.size w w' := by
  subst h
  go_enter Tryd.func62, Tryd.ntmps62
  go_wp2_with (first
    | (go_at_call 48; refine (c26 _ bgo).mono ?_; rintro e w1 ⟨rfl, rfl⟩)
    | (go_at_call 63; refine (c61 _ bgo).mono ?_; rintro e w2 ⟨v2, rfl, c58, hb2⟩; have hA2 := bnx (w0 := w) bgo hb2)
    | (go_at_call 60; refine (c58 _ (Below.refl _ _)).mono ?_; rintro e w3 ⟨rfl, hb3⟩; have hA3 := bnx (w0 := w) hA2 hb3)
    | (go_at_call 66; refine (infinite_any _ _ _).mono ?_; rintro e w4 ⟨rfl, rfl⟩))
  go_ret
  exact ⟨by first | rfl | (simp; omega), bgo⟩
set_option maxHeartbeats 400000 in
theorem far_0l (h : ¬ 0 < hv) (h1 : (hv == 0) = false) : Calls Tryd.prog 62 #[.int .i64 0, .bool s, .bool odd, vr, vd] w fun e w' => e = .returned (.bool false) ∧ Below w.heap.size w w' := by
  go_enter Tryd.func62, Tryd.ntmps62
  go_wp2_with (first
    | (go_at_call 48; refine (c26 _ bgo).mono ?_; rintro e w1 ⟨rfl, rfl⟩)
    | (go_at_call 63; refine (c61 _ bgo).mono ?_; rintro e w2 ⟨v2, rfl, c58, hb2⟩; have hA2 := bnx (w0 := w) bgo hb2)
    | (go_at_call 60; refine (c58 _ (Below.refl _ _)).mono ?_; rintro e w3 ⟨rfl, hb3⟩; have hA3 := bnx (w0 := w) hA2 hb3)
    | (go_at_call 66; refine (infinite_any _ _ _).mono ?_; rintro e w4 ⟨rfl, rfl⟩))
  go_ret
  exact ⟨by first | rfl | (simp; omega), bgo⟩
set_option maxHeartbeats 400000 in
theorem far_1g (h : 0 ≤ hv) : Calls Tryd.prog 62 #[.int .i64 1, .bool s, .bool odd, vr, vd] w fun e w' => e = .returned (.bool true) ∧ Below w.heap.size w w' := by
  go_enter Tryd.func62, Tryd.ntmps62
  go_wp2_with (first
    | (go_at_call 48; refine (c26 _ bgo).mono ?_; rintro e w1 ⟨rfl, rfl⟩)
    | (go_at_call 63; refine (c61 _ bgo).mono ?_; rintro e w2 ⟨v2, rfl, c58, hb2⟩; have hA2 := bnx (w0 := w) bgo hb2)
    | (go_at_call 60; refine (c58 _ (Below.refl _ _)).mono ?_; rintro e w3 ⟨rfl, hb3⟩; have hA3 := bnx (w0 := w) hA2 hb3)
    | (go_at_call 66; refine (infinite_any _ _ _).mono ?_; rintro e w4 ⟨rfl, rfl⟩))
  go_ret
  exact ⟨by first | rfl | (simp; omega), bgo⟩
set_option maxHeartbeats 400000 in
theorem far_1l (h : ¬ 0 ≤ hv) : Calls Tryd.prog 62 #[.int .i64 1, .bool s, .bool odd, vr, vd] w fun e w' => e = .returned (.bool false) ∧ Below w.heap.size w w' := by
  go_enter Tryd.func62, Tryd.ntmps62
  go_wp2_with (first
    | (go_at_call 48; refine (c26 _ bgo).mono ?_; rintro e w1 ⟨rfl, rfl⟩)
    | (go_at_call 63; refine (c61 _ bgo).mono ?_; rintro e w2 ⟨v2, rfl, c58, hb2⟩; have hA2 := bnx (w0 := w) bgo hb2)
    | (go_at_call 60; refine (c58 _ (Below.refl _ _)).mono ?_; rintro e w3 ⟨rfl, hb3⟩; have hA3 := bnx (w0 := w) hA2 hb3)
    | (go_at_call 66; refine (infinite_any _ _ _).mono ?_; rintro e w4 ⟨rfl, rfl⟩))
  go_ret
  exact ⟨by first | rfl | (simp; omega), bgo⟩
set_option maxHeartbeats 400000 in
theorem far_d (h0 : (d == 0) = false) (h1 : (d == 1) = false) : Calls Tryd.prog 62 #[.int .i64 d, .bool s, .bool odd, vr, vd] w fun e w' => e = .returned (.bool (inB d s)) ∧ Below w.heap.size w w' := by
  go_enter Tryd.func62, Tryd.ntmps62
  go_wp2_with (first
    | (go_at_call 48; refine (c26 _ bgo).mono ?_; rintro e w1 ⟨rfl, rfl⟩)
    | (go_at_call 63; refine (c61 _ bgo).mono ?_; rintro e w2 ⟨v2, rfl, c58, hb2⟩; have hA2 := bnx (w0 := w) bgo hb2)
    | (go_at_call 60; refine (c58 _ (Below.refl _ _)).mono ?_; rintro e w3 ⟨rfl, hb3⟩; have hA3 := bnx (w0 := w) hA2 hb3)
    | (go_at_call 66; refine (infinite_any _ _ _).mono ?_; rintro e w4 ⟨rfl, rfl⟩))
  go_ret
  exact ⟨by first | rfl | (simp; omega), bgo⟩
end
theorem farther_v (d : Int) (s odd : Bool) {K K' R D : Nat} {vr vd : Value} {w : World} (hK : K < 1000000) (hK' : K' < 1000000) (h : Nt K R vr w) (h' : Nt K' D vd w) :
    Calls Tryd.prog 62 #[.int .i64 d, .bool s, .bool odd, vr, vd] w fun e w' => e = .returned (.bool (faB d s odd R D)) ∧ Below w.heap.size w w' := by
  have c26 := fun W (hb : Below w.heap.size w W) => nlen_v (by omega) (h.next hb)
  unfold faB
  by_cases hz : R = 0
  · rw [if_pos hz]; exact far_zero d s odd R vr vd w c26 hz
  · rw [if_neg hz]
    have hR : (((bl R : Nat) : Int) == 0) = false := by
      have : bl R ≠ 0 := fun e => hz (bl_zero.1 e)
      rw [beq_eq_false_iff_ne]; omega
    have c61 : ∀ W, Below w.heap.size w W → Calls Tryd.prog 63 #[vr, vr] W fun e w' => ∃ r, e = .returned r ∧ (∀ W', Below w'.heap.size w' W' → Calls Tryd.prog 60 #[r, vd] W' fun e w'' => e = .returned (.int .i64 (sgn ((R + R : Nat) : Int) (D : Int))) ∧ Below W'.heap.size W' w'') ∧ Below W.heap.size W w' := fun W hb =>
      (nadd_v (by omega) (by omega) (h.next hb) (h.next hb)).mono fun e w' ⟨r, h1, h2, h3⟩ => ⟨r, h1, fun W' hb' => ncmp_v (by omega) (by omega) (h2.nt.next hb') (h'.next (bnx (bnx hb h3) hb')), h3⟩
    by_cases h0 : d = 0
    · subst h0
      rw [if_pos rfl]
      rcases sgn_ways ((R + R : Nat) : Int) (D : Int) with ⟨a, e⟩ | ⟨a, e⟩ | ⟨a, e⟩
      · rw [e] at c61
        rw [decide_eq_false (show ¬ D < R + R by omega), decide_eq_false (show ¬ R + R = D by omega)]
        exact far_0l s odd R vr vd w c26 (-1) hR c61 (by decide) (by decide)
      · rw [e] at c61
        rw [decide_eq_false (show ¬ D < R + R by omega), decide_eq_true (show R + R = D by omega), Bool.false_or, Bool.true_and]
        exact far_0e s odd R vr vd w c26 0 hR c61 rfl
      · rw [e] at c61
        rw [decide_eq_true (show D < R + R by omega), Bool.true_or]
        exact far_0g s odd R vr vd w c26 1 hR c61 (by decide)
    · rw [if_neg h0]
      by_cases h1 : d = 1
      · subst h1
        rw [if_pos rfl]
        rcases sgn_ways ((R + R : Nat) : Int) (D : Int) with ⟨a, e⟩ | ⟨a, e⟩ | ⟨a, e⟩
        · rw [e] at c61
          rw [decide_eq_false (show ¬ D ≤ R + R by omega)]
          exact far_1l s odd R vr vd w c26 (-1) hR c61 (by decide)
        · rw [e] at c61
          rw [decide_eq_true (show D ≤ R + R by omega)]
          exact far_1g s odd R vr vd w c26 0 hR c61 (by decide)
        · rw [e] at c61
          rw [decide_eq_true (show D ≤ R + R by omega)]
          exact far_1g s odd R vr vd w c26 1 hR c61 (by decide)
      · rw [if_neg h1]
        exact far_d d s odd R vr vd w c26 _ hR c61 (by simpa using h0) (by simpa using h1)
theorem raised_any (x s : Bool) (w : World) : Calls Tryd.prog 57 #[.bool x, .bool s] w fun e w' => e = .returned (.int .i64 (if x then 0 else if s then 12 else 8)) ∧ w = w' := by
  cases x <;> cases s
  all_goals (
    go_enter Tryd.func57, Tryd.ntmps57
    go_wp2
    go_ret
    exact ⟨rfl, rfl⟩)
end Go.Proofs.YtkefmapcaggefaaDoor

namespace Go.Proofs.YtkefmapcaggefaaDoor
open Go.RowKit

theorem val_one1 (c : Int) : val (oneW c) 1 = c := by simp [val, oneW]
end Go.Proofs.YtkefmapcaggefaaDoor

namespace Go.Proofs.YtkefmapcaggefaaDoor
open Go.RowKit

theorem nt_one {W : World} {g V : Nat} {vi : Int} (hg : g = W.heap.size) (hv : vi = (V : Int)) (hb : V < 18446744073709551616) : Nt 1 V (.slice (some ⟨g, 0, none⟩) 1 1) (W.alloc (.cells #[.int .u64 vi] 22)) := by
  subst hg hv
  exact ⟨_, 1, 1, oneW V, rfl, Nat.le_refl _, num_one W V (by omega), val_one1 V⟩
theorem Nz.more' {K V : Nat} {v : Value} {w w' : World} (h : Nz K V v w) (hb : Below w.heap.size w w') : Nz (K + 2) V v w' := by
  obtain ⟨a, k, cap, z, h1, h2, h3, h4, h5⟩ := h
  exact ⟨a, k, cap, z, h1, by omega, h3.next hb, h4, h5⟩
set_option maxHeartbeats 400000 in
theorem shifted_neg (n : Int) (m : Nat) (vn vd : Value) (B : Nat) (w : World) (hn : n < 0) (hm : -n = (m : Int)) (hm2 : m < 1000000)
    (c88 : Calls Tryd.prog 68 #[vd, .int .i64 (m : Int)] w fun e w' => ∃ r, e = .returned (.tuple #[r, .int .i64 0]) ∧ Nz 2001 B r w' ∧ Below w.heap.size w w') :
    Calls Tryd.prog 59 #[vn, vd, .int .i64 n] w fun e w' => ∃ r, e = .returned (.tuple #[vn, r]) ∧ Nz 2001 B r w' ∧ Below w.heap.size w w' := by
  obtain rfl : n = -(m : Int) := by omega
  clear hm
  have hm1 : 0 < m := by omega
  go_enter Tryd.func59, Tryd.ntmps59
  go_wp2_with (go_at_call 68; refine c88.mono ?_; rintro e w1 ⟨r, rfl, hr, hb1⟩)
  exact bodyPost_ret (v := .tuple #[vn, r]) (by simp only [results, Tryd.results59]; go_simp) rfl ⟨_, rfl, hr, hb1⟩
set_option maxHeartbeats 400000 in
theorem shifted_pos (n : Int) (vn vd : Value) (A : Nat) (w : World) (hn : 0 ≤ n)
    (c88 : Calls Tryd.prog 68 #[vn, .int .i64 n] w fun e w' => ∃ r, e = .returned (.tuple #[r, .int .i64 0]) ∧ Nz 2001 A r w' ∧ Below w.heap.size w w') :
    Calls Tryd.prog 59 #[vn, vd, .int .i64 n] w fun e w' => ∃ r, e = .returned (.tuple #[r, vd]) ∧ Nz 2001 A r w' ∧ Below w.heap.size w w' := by
  have hn' : ¬ n < 0 := by omega
  go_enter Tryd.func59, Tryd.ntmps59
  go_wp2_with (go_at_call 68; refine c88.mono ?_; rintro e w1 ⟨r, rfl, hr, hb1⟩)
  exact bodyPost_ret (v := .tuple #[r, vd]) (by simp only [results, Tryd.results59]; go_simp) rfl ⟨_, rfl, hr, hb1⟩
/-- two naturals whose fraction is N / D times 2^n -/
theorem shifted_v (n : Int) {N D : Nat} {vn vd : Value} {w : World} (h : Nt 2001 N vn w) (h' : Nt 2001 D vd w) (h1 : (bl N : Int) + n ≤ 127000) (h2 : (bl D : Int) - n ≤ 127000) :
    Calls Tryd.prog 59 #[vn, vd, .int .i64 n] w fun e w' => ∃ a b, e = .returned (.tuple #[a, b]) ∧ Nt 2001 (N * 2 ^ n.toNat) a w' ∧ Nt 2001 (D * 2 ^ (-n).toNat) b w' ∧ Below w.heap.size w w' := by
  by_cases hn : n < 0
  · have hm : -n = (((-n).toNat : Nat) : Int) := by omega
    refine (shifted_neg n (-n).toNat vn vd (D * 2 ^ (-n).toNat) w hn hm (by omega) (nshl_v (-n).toNat (by decide) h' (by omega))).mono fun e w' ⟨r, e1, e2, e3⟩ => ⟨_, _, e1, ?_, e2.nt, e3⟩
    rw [show n.toNat = 0 by omega, Nat.pow_zero, Nat.mul_one]
    exact h.next e3
  · have c := nshl_v (w := w) n.toNat (by decide) h (by omega)
    rw [show ((n.toNat : Nat) : Int) = n by omega] at c
    refine (shifted_pos n vn vd (N * 2 ^ n.toNat) w (by omega) c).mono fun e w' ⟨r, e1, e2, e3⟩ => ⟨_, _, e1, e2.nt, ?_, e3⟩
    rw [show (-n).toNat = 0 by omega, Nat.pow_zero, Nat.mul_one]
    exact h'.next e3
/-- the place of the highest bit of a fraction -/
def ld (N D : Nat) : Int := let p := (bl N : Int) - bl D; if N * 2 ^ (-p).toNat < D * 2 ^ p.toNat then p - 1 else p
section
variable (vn vd : Value) (LN LD s : Int) (w : World) (hLN : 0 ≤ LN ∧ LN ≤ 60000) (hLD : 0 ≤ LD ∧ LD ≤ 60000)
  (c26 : ∀ W, Below w.heap.size w W → Calls Tryd.prog 48 #[vn] W fun e w' => e = .returned (.int .i64 LN) ∧ W = w')
  (c26d : ∀ W, Below w.heap.size w W → Calls Tryd.prog 48 #[vd] W fun e w' => e = .returned (.int .i64 LD) ∧ W = w')
  (c57 : ∀ n : Int, n = -(LN - LD) → Calls Tryd.prog 59 #[vn, vd, .int .i64 n] w fun e w' => ∃ va vb, e = .returned (.tuple #[va, vb]) ∧ (∀ W, Below w'.heap.size w' W → Calls Tryd.prog 60 #[va, vb] W fun e w'' => e = .returned (.int .i64 s) ∧ Below W.heap.size W w'') ∧ Below w.heap.size w w')
include hLN hLD c26 c26d c57
set_option maxHeartbeats 400000 in
theorem lead_l (h : s < 0) : Calls Tryd.prog 52 #[vn, vd] w fun e w' => e = .returned (.int .i64 (LN - LD - 1)) ∧ Below w.heap.size w w' := by
  go_enter Tryd.func52, Tryd.ntmps52
  go_wp2_with (first
    | (go_at_call_of 48 vn; refine (c26 _ bgo).mono ?_; rintro e w1 ⟨rfl, rfl⟩)
    | (go_at_call_of 48 vd; refine (c26d _ bgo).mono ?_; rintro e w1 ⟨rfl, rfl⟩)
    | (go_at_call 59; refine (c57 _ (by omega)).mono ?_; rintro e w2 ⟨va, vb, rfl, c58, hb2⟩)
    | (go_at_call 60; refine (c58 _ (Below.refl _ _)).mono ?_; rintro e w3 ⟨rfl, hb3⟩; have hA3 := bnx (w0 := w) hb2 hb3))
  go_ret
  exact ⟨rfl, bgo⟩
set_option maxHeartbeats 400000 in
theorem lead_g (h : ¬ s < 0) : Calls Tryd.prog 52 #[vn, vd] w fun e w' => e = .returned (.int .i64 (LN - LD)) ∧ Below w.heap.size w w' := by
  go_enter Tryd.func52, Tryd.ntmps52
  go_wp2_with (first
    | (go_at_call_of 48 vn; refine (c26 _ bgo).mono ?_; rintro e w1 ⟨rfl, rfl⟩)
    | (go_at_call_of 48 vd; refine (c26d _ bgo).mono ?_; rintro e w1 ⟨rfl, rfl⟩)
    | (go_at_call 59; refine (c57 _ (by omega)).mono ?_; rintro e w2 ⟨va, vb, rfl, c58, hb2⟩)
    | (go_at_call 60; refine (c58 _ (Below.refl _ _)).mono ?_; rintro e w3 ⟨rfl, hb3⟩; have hA3 := bnx (w0 := w) hb2 hb3))
  go_ret
  exact ⟨rfl, bgo⟩
end
theorem leading_v {N D : Nat} {vn vd : Value} {w : World} (h : Nt 2001 N vn w) (h' : Nt 2001 D vd w) (h1 : bl N ≤ 51200) (h2 : bl D ≤ 51200) :
    Calls Tryd.prog 52 #[vn, vd] w fun e w' => e = .returned (.int .i64 (ld N D)) ∧ Below w.heap.size w w' := by
  have c26 := fun W (hb : Below w.heap.size w W) => nlen_v (by decide) (h.next hb)
  have c26d := fun W (hb : Below w.heap.size w W) => nlen_v (by decide) (h'.next hb)
  have c57 := shifted_v (w := w) ((bl D : Int) - bl N) h h' (by omega) (by omega)
  have c57' : Calls Tryd.prog 59 #[vn, vd, .int .i64 ((bl D : Int) - bl N)] w fun e w' => ∃ va vb, e = .returned (.tuple #[va, vb]) ∧ (∀ W, Below w'.heap.size w' W → Calls Tryd.prog 60 #[va, vb] W fun e w'' => e = .returned (.int .i64 (sgn ((N * 2 ^ (-((bl N : Int) - bl D)).toNat : Nat) : Int) ((D * 2 ^ ((bl N : Int) - bl D).toNat : Nat) : Int))) ∧ Below W.heap.size W w'') ∧ Below w.heap.size w w' := by
    refine c57.mono fun e w' ⟨a, b, e1, e2, e3, e4⟩ => ⟨a, b, e1, fun W hb => ?_, e4⟩
    rw [show (bl D : Int) - bl N = -((bl N : Int) - bl D) by omega] at e2 e3
    rw [Int.neg_neg] at e3
    exact ncmp_v (by decide) (by decide) (e2.next hb) (e3.next hb)
  have c57n := fun (n : Int) (hn : n = -((bl N : Int) - bl D)) => (show n = (bl D : Int) - bl N by omega) ▸ c57'
  unfold ld
  dsimp only
  rcases sgn_ways ((N * 2 ^ (-((bl N : Int) - bl D)).toNat : Nat) : Int) ((D * 2 ^ ((bl N : Int) - bl D).toNat : Nat) : Int) with ⟨a, e⟩ | ⟨a, e⟩ | ⟨a, e⟩
  · rw [if_pos (by exact Int.ofNat_lt.1 a)]
    exact lead_l vn vd _ _ _ w (by omega) (by omega) c26 c26d c57n (by omega)
  · rw [if_neg (fun hh => by have := Int.ofNat_lt.2 hh; omega)]
    exact lead_g vn vd _ _ _ w (by omega) (by omega) c26 c26d c57n (by omega)
  · rw [if_neg (fun hh => by have := Int.ofNat_lt.2 hh; omega)]
    exact lead_g vn vd _ _ _ w (by omega) (by omega) c26 c26d c57n (by omega)
/-- N / D times 2^n, rounded to a whole number -/
def nrQ (N D : Nat) (n : Int) : Nat := N * 2 ^ n.toNat / (D * 2 ^ (-n).toNat)
def nrR (N D : Nat) (n : Int) : Nat := N * 2 ^ n.toNat % (D * 2 ^ (-n).toNat)
def nrF (d : Int) (s : Bool) (N D : Nat) (n : Int) : Bool := faB d s (decide (nrQ N D n % 2 = 1)) (nrR N D n) (D * 2 ^ (-n).toNat)
def nrC (d : Int) (s : Bool) (N D : Nat) (n : Int) : Nat := if nrF d s N D n then nrQ N D n + 1 else nrQ N D n
section
variable (d n : Int) (s odd far : Bool) (vn vd : Value) (Q R B : Nat) (w : World)
  (c57 : Calls Tryd.prog 59 #[vn, vd, .int .i64 n] w fun e w' => ∃ va vb, e = .returned (.tuple #[va, vb]) ∧ Nt 2001 B vb w' ∧ Below w.heap.size w w' ∧
    (∀ W, Below w'.heap.size w' W → Calls Tryd.prog 61 #[va, vb] W fun e w'' => ∃ q r, e = .returned (.tuple #[q, r, .int .i64 0]) ∧ Nz 2001 Q q w'' ∧ Nz 2001 R r w'' ∧ Below W.heap.size W w''))
  (c60 : ∀ W vr vb, Nt 2001 R vr W → Nt 2001 B vb W → Calls Tryd.prog 62 #[.int .i64 d, .bool s, .bool odd, vr, vb] W fun e w' => e = .returned (.bool far) ∧ Below W.heap.size W w')
  (c26 : ∀ W vr, Nt 2001 R vr W → Calls Tryd.prog 48 #[vr] W fun e w' => e = .returned (.int .i64 (bl R : Int)) ∧ W = w')
  (c61 : ∀ W q v, Nt 2001 Q q W → Nt 1 1 v W → Calls Tryd.prog 63 #[q, v] W fun e w' => ∃ r, e = .returned r ∧ Nz 2003 (Q + 1) r w' ∧ Below W.heap.size W w')
  (hodd : ∀ k z, Words z → val z k = (Q : Int) → 0 < k → (bits BinOp.and IntKind.u64 (z 0) 1 == 1) = odd)
  (hodd0 : Q = 0 → odd = false)
include c57 c60 c26 c61 hodd hodd0
set_option maxHeartbeats 2000000 in
theorem nearby_w : Calls Tryd.prog 54 #[.int .i64 d, .bool s, vn, vd, .int .i64 n] w fun e w' => ∃ v, e = .returned (.tuple #[v, .bool (((bl R : Nat) : Int) == 0)]) ∧ Nz 2003 (if far then Q + 1 else Q) v w' ∧ Below w.heap.size w w' := by
  go_enter Tryd.func54, Tryd.ntmps54
  go_upto_region 3 with (first
    | (go_at_call 59; refine c57.mono ?_; rintro e w1 ⟨va, vb, rfl, hvb, hb1, c59⟩)
    | (go_at_call 61; refine (c59 _ (Below.refl _ _)).mono ?_; rintro e w2 ⟨q, r, rfl, hq, hr, hb2⟩))
  replace hvb := hvb.next hb2
  have hA2 := bnx hb1 hb2
  have hq' := hq
  obtain ⟨aq, kq, cq, zq, rfl, hkq, hNq, hvq, hsq⟩ := hq
  go_cut [14] from 15 (fun o wc => o = .bool odd ∧ wc = w2)
  case first =>
    rcases Nat.eq_zero_or_pos kq with hk0 | hk0
    · have h0 : Q = 0 := by
        subst hk0
        have : val zq 0 = 0 := rfl
        omega
      have ho := hodd0 h0
      subst ho hk0
      clear hodd hodd0 c57 c59 c60 c61 c26
      go_wp2
      go_meet
      exact ⟨rfl, rfl⟩
    · have ho := hodd kq zq hNq.2.2.1 hvq hk0
      have hki : (0 : Int) < kq := by omega
      have hz0 := hNq.2.2.1 0
      obtain ⟨n1, n2, n3, n4, n5⟩ := hNq
      rcases n5 with ⟨_, n6⟩ | ⟨b, off, rfl, n7, n8⟩
      · omega
      · have hc0 := n8 0 hk0
        rw [Nat.add_zero] at hc0
        subst ho
        clear hodd hodd0 c57 c59 c60 c61 c26
        go_wp2
        go_meet
        exact ⟨rfl, rfl⟩
  case rest =>
    obtain ⟨rfl, rfl⟩ := hcut
    clear hNq hvq hsq hodd hodd0 c57 c59
    cases far with
    | false =>
      go_wp2_with (first
        | (go_at_call 62; refine (c60 _ _ _ hr.nt hvb).mono ?_; rintro e w3 ⟨rfl, hb3⟩)
        | (go_at_call 48; refine (c26 _ _ (hr.nt.next hb3)).mono ?_; rintro e w4 ⟨rfl, rfl⟩))
      exact bodyPost_ret (v := .tuple #[_, _]) (by simp only [results, Tryd.results54]; go_simp) rfl ⟨_, rfl, hq'.more' hb3, bnx hA2 hb3⟩
    | true =>
      go_wp2_with (first
        | (go_at_call 62; refine (c60 _ _ _ hr.nt hvb).mono ?_; rintro e w3 ⟨rfl, hb3⟩)
        | (go_at_call 63; refine (c61 _ _ _ (hq'.nt.next (bnx hb3 bgo)) (nt_one (by simp) rfl (by decide))).mono ?_; rintro e w4 ⟨v4, rfl, h4, hb4⟩; have hA4 : Below wc.heap.size wc w4 := bnx (bnx hb3 bgo) hb4)
        | (go_at_call 48; refine (c26 _ _ (hr.nt.next hA4)).mono ?_; rintro e w5 ⟨rfl, rfl⟩))
      exact bodyPost_ret (v := .tuple #[v4, _]) (by simp only [results, Tryd.results54]; go_simp) rfl ⟨_, rfl, h4, bnx hA2 hA4⟩
end
theorem nearby_v (d n : Int) (s : Bool) {N D : Nat} {vn vd : Value} {w : World} (h : Nt 2001 N vn w) (h' : Nt 2001 D vd w) (hD : D ≠ 0) (h1 : (bl N : Int) + n ≤ 127000) (h2 : (bl D : Int) - n ≤ 127000) (h3 : bl N ≤ 127000) (h4 : bl D ≤ 127000) :
    Calls Tryd.prog 54 #[.int .i64 d, .bool s, vn, vd, .int .i64 n] w fun e w' => ∃ v, e = .returned (.tuple #[v, .bool (decide (nrR N D n = 0))]) ∧ Nz 2003 (nrC d s N D n) v w' ∧ Below w.heap.size w w' := by
  have hpos : D * 2 ^ (-n).toNat ≠ 0 := Nat.ne_of_gt (Nat.mul_pos (by omega) (Nat.two_pow_pos _))
  have hbA : bl (N * 2 ^ n.toNat) ≤ 128000 := by
    rw [bl_le]
    have := bl_le.1 (Nat.le_refl (bl N))
    calc N * 2 ^ n.toNat < 2 ^ bl N * 2 ^ n.toNat := Nat.mul_lt_mul_of_pos_right this (Nat.two_pow_pos _)
      _ = 2 ^ (bl N + n.toNat) := by rw [Nat.pow_add]
      _ ≤ 2 ^ 128000 := Nat.pow_le_pow_right (by decide) (by omega)
  have hbB : bl (D * 2 ^ (-n).toNat) ≤ 128000 := by
    rw [bl_le]
    have := bl_le.1 (Nat.le_refl (bl D))
    calc D * 2 ^ (-n).toNat < 2 ^ bl D * 2 ^ (-n).toNat := Nat.mul_lt_mul_of_pos_right this (Nat.two_pow_pos _)
      _ = 2 ^ (bl D + (-n).toNat) := by rw [Nat.pow_add]
      _ ≤ 2 ^ 128000 := Nat.pow_le_pow_right (by decide) (by omega)
  have c57 : Calls Tryd.prog 59 #[vn, vd, .int .i64 n] w fun e w' => ∃ va vb, e = .returned (.tuple #[va, vb]) ∧ Nt 2001 (D * 2 ^ (-n).toNat) vb w' ∧ Below w.heap.size w w' ∧
    (∀ W, Below w'.heap.size w' W → Calls Tryd.prog 61 #[va, vb] W fun e w'' => ∃ q r, e = .returned (.tuple #[q, r, .int .i64 0]) ∧ Nz 2001 (nrQ N D n) q w'' ∧ Nz 2001 (nrR N D n) r w'' ∧ Below W.heap.size W w'') := by
    refine (shifted_v n h h' h1 h2).mono fun e w' ⟨a, b, e1, e2, e3, e4⟩ => ⟨a, b, e1, e3, e4, fun W hb => ?_⟩
    exact ndiv_v (by decide) (by decide) (e2.next hb) (e3.next hb) hbA hbB hpos
  refine (nearby_w d n s (decide (nrQ N D n % 2 = 1)) (nrF d s N D n) vn vd (nrQ N D n) (nrR N D n) (D * 2 ^ (-n).toNat) w c57 (fun W vr vb a b => farther_v d s _ (by decide) (by decide) a b) (fun W vr a => nlen_v (by decide) a) (fun W q v a b => nadd_v (by decide) (by decide) a b) ?_ ?_).mono ?_
  · intro k z hz hv hk
    have hb := hz 0
    rw [show (1 : Int) = 2 ^ 1 - 1 by decide, and_mask hb (by decide)]
    obtain ⟨k', rfl⟩ : ∃ k', k = 1 + k' := ⟨k - 1, by omega⟩
    have hs := val_split z 1 k'
    rw [hv] at hs
    have h10 : val z 1 = z 0 := by show val z 0 + z 0 * 18446744073709551616 ^ 0 = z 0; simp [val]
    rw [h10, Int.pow_one] at hs
    rcases Nat.mod_two_eq_zero_or_one (nrQ N D n) with e | e
    · rw [decide_eq_false (by omega)]
      rw [beq_eq_false_iff_ne]; omega
    · rw [decide_eq_true e]
      rw [beq_iff_eq]; omega
  · intro h0
    rw [h0]; rfl
  · rintro e w' ⟨v, e1, e2, e3⟩
    refine ⟨v, ?_, e2, e3⟩
    rw [e1]
    congr 4
    have : (((bl (nrR N D n) : Nat) : Int) == 0) = decide (nrR N D n = 0) := by
      by_cases hz : nrR N D n = 0
      · rw [hz]; rfl
      · rw [decide_eq_false hz, beq_eq_false_iff_ne]
        have := mt bl_zero.1 hz
        omega
    rw [this]
end Go.Proofs.YtkefmapcaggefaaDoor
