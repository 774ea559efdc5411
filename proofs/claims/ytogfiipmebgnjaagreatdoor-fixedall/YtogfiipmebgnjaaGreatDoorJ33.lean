/-
  Texts that the proof leans on, joined: Sj9, Sk9, Sl9, Sm9, Sn9, So9, Sp9, Ss9, St9, Su9, Fl, Sv9.
-/
import Derived.Test.YtogfiipmebgnjaaGreatDoorJ32
import Derived.Test.YtogfiipmebgnjaaGreatDoorJ26
import Derived.Test.YtogfiipmebgnjaaGreatDoorJ29
import Derived.Test.YtogfiipmebgnjaaGreatDoorJ16
import Derived.Test.YtogfiipmebgnjaaGreatDoorJ28
import Derived.Test.YtogfiipmebgnjaaGreatDoorJ1
import Derived.Test.YtogfiipmebgnjaaGreatDoorJ31
import Derived.Test.YtogfiipmebgnjaaGreatDoorJ27
set_option linter.unusedVariables false
set_option linter.unusedSectionVars false
set_option linter.unusedSimpArgs false
set_option maxRecDepth 20000
namespace Go.Proofs.YtogfiipmebgnjaaGreatDoor
open Go.RowKit

theorem tn_ex {k : Nat} {x : Int} : ∀ (d : Nat) (g0 : Int), tnP k x g0 → ¬ tnP k x (g0 + d) → ∃ E, g0 ≤ E ∧ E < g0 + d ∧ tnP k x E ∧ ¬ tnP k x (E + 1)
  | 0, g0, h0, h1 => absurd h0 (by simpa using h1)
  | d + 1, g0, h0, h1 => by
    by_cases h : tnP k x (g0 + 1)
    · obtain ⟨E, e1, e2, e3, e4⟩ := tn_ex d (g0 + 1) h (by rw [show g0 + 1 + (d : Int) = g0 + ((d + 1 : Nat) : Int) by omega]; exact h1)
      exact ⟨E, by omega, by omega, e3, e4⟩
    · exact ⟨g0, Int.le_refl _, by omega, h0, h⟩
theorem tn_top {k : Nat} {x : Int} (hk : k < 2 ^ 256) (hx : x ≤ 17000) : ¬ tnP k x 6000 := by
  unfold tnP zE oE
  rw [show ((-6000 : Int)).toNat = 0 by decide, Nat.pow_zero, Nat.mul_one, show ((6000 : Int)).toNat = 6000 by decide]
  have h1 : (2 : Nat) ^ 18000 ≤ 10 ^ 6000 := by decide +kernel
  obtain ⟨m', hm'⟩ : ∃ m' : Nat, m' = 18000 := ⟨_, rfl⟩
  rw [← hm'] at h1
  generalize (10 : Nat) ^ 6000 = T at *
  obtain ⟨m, hm⟩ : ∃ m : Nat, m = 17000 := ⟨_, rfl⟩
  have h2 : k * 2 ^ x.toNat < 2 ^ 256 * 2 ^ m := by
    have a1 : k * 2 ^ x.toNat < 2 ^ 256 * 2 ^ x.toNat := Nat.mul_lt_mul_of_pos_right hk (Nat.two_pow_pos _)
    have a2 : 2 ^ 256 * 2 ^ x.toNat ≤ 2 ^ 256 * 2 ^ m := Nat.mul_le_mul_left _ (Nat.pow_le_pow_right (by decide) (by omega))
    exact Nat.lt_of_lt_of_le a1 a2
  rw [← Nat.pow_add] at h2
  have h3 : (2 : Nat) ^ (256 + m) ≤ 2 ^ m' := Nat.pow_le_pow_right (by decide) (by omega)
  have h4 : 1 * T ≤ 2 ^ (-x).toNat * T := Nat.mul_le_mul_right _ (Nat.two_pow_pos _)
  generalize (2 : Nat) ^ (256 + m) = Y at *
  generalize (2 : Nat) ^ m' = Y' at *
  rw [Nat.mul_assoc 4, Nat.mul_assoc 4]
  generalize 2 ^ (-x).toNat * T = Z1 at *
  generalize k * 2 ^ x.toNat = Z2 at *
  omega
theorem two_bl (m : Nat) : bl (2 ^ m) = m + 1 := bl_eq (by rw [Nat.add_sub_cancel]; exact Nat.le_refl _) (Nat.pow_lt_pow_right (by decide) (by omega))
attribute [local irreducible] W4 Nz Nt NT
end Go.Proofs.YtogfiipmebgnjaaGreatDoor

namespace Go.Proofs.YtogfiipmebgnjaaGreatDoor
open Go.RowKit

theorem NT.grown {K V Bs : Nat} {v tv : Value} {l : List UInt8} {w w' : World} (h : NT K V v w) (ho : w.ownsRow Bs 5 1 tv l.length (Lib.byteCells l)) (hl : tv = .slice none 0 0 ∨ 0 < l.length) (hg : w.grownBy w' tv.ownBlock) : NT K V v w' := by
  obtain ⟨b, k, cap, z, h1, h2, ⟨n1, n2, n3, n4, n5⟩, h4, h5⟩ := h
  refine ⟨b, k, cap, z, h1, h2, ⟨n1, n2, n3, n4, ?_⟩, h4, h5⟩
  rcases n5 with n5 | ⟨b', off, e, hb, hc⟩
  · exact Or.inl n5
  · cases e
    refine Or.inr ⟨b, 0, rfl, Nat.lt_of_lt_of_le hb hg.size, fun i hi => ?_⟩
    have hne : some b ≠ tv.ownBlock := by
      rcases hl with rfl | hl
      · intro h; cases h
      · obtain ⟨g', cap', rfl, _, _⟩ := ho.form hl
        intro h
        have : b = g' := Option.some.inj h
        subst this
        have h6 := hc 0 (by omega)
        rw [Nat.add_zero, ho.cellAt 0 (by omega)] at h6
        simp [Lib.byteCells, hl] at h6
    exact (World.cell?_of_block (w := w) (a := ⟨b, 0 + i, none⟩) (hg.block b hb hne)).trans (hc i hi)
attribute [local irreducible] W4 Nz Nt NT
end Go.Proofs.YtogfiipmebgnjaaGreatDoor

namespace Go.Proofs.YtogfiipmebgnjaaGreatDoor
open Go.RowKit

/-- how many quarters below a number are read as it -/
def lwN (n x : Int) (k : Nat) : Nat := if nbB n x k then 1 else 2
def evK (k : Nat) : Bool := decide (k % 2 = 0)
/-- the first digit's place, and how many digits behind it -/
structure Shd (n x : Int) (k : Nat) (E : Int) (K : Nat) : Prop where
  t0 : tnP k x E
  t1 : ¬ tnP k x (E + 1)
  st : stK (evK k) (4 * k * oE x E) (lwN n x k * oE x E) (2 * oE x E) (zE x E) K = true
  mn : ∀ j, j < K → stK (evK k) (4 * k * oE x E) (lwN n x k * oE x E) (2 * oE x E) (zE x E) j = false
theorem bin_x {n x : Int} (hb : binN n) (h1 : leastN n ≤ x) (h2 : x ≤ mostN n) : -16990 ≤ x ∧ x ≤ 16990 := by
  have h3 : -16990 ≤ leastN n ∧ mostN n ≤ 16990 := by
    rcases bin_cases hb with rfl | rfl | rfl | rfl | rfl | rfl <;> decide
  omega
theorem gs_in {k : Nat} {x : Int} (hk : k < 2 ^ 256) (hk0 : k ≠ 0) (hx : -16990 ≤ x ∧ x ≤ 16990) : tnP k x (gsP k x) ∧ -6000 ≤ gsP k x ∧ gsP k x < 6000 := by
  have hb : bl k ≤ 256 := bl_le.2 hk
  obtain ⟨b1, b2, b3⟩ := bl_bd hk0
  have e : ((bl k - 1 : Nat) : Int) = (bl k : Int) - 1 := by omega
  have := guess_ok (c := k) (L := bl k - 1) (x := x) b1 (by omega)
  rw [e] at this
  refine ⟨this, ?_⟩
  unfold gsP
  by_cases h0 : 0 ≤ (bl k : Int) - 1 + x
  · rw [Int.tdiv_eq_ediv_of_nonneg (by omega)]; omega
  · rw [show ((bl k : Int) - 1 + x) * 30103 = -(-((bl k : Int) - 1 + x) * 30103) by omega, Int.neg_tdiv, Int.tdiv_eq_ediv_of_nonneg (by omega)]; omega
theorem Shd.ex {n x : Int} {k : Nat} (hk : k < 2 ^ 256) (hk0 : k ≠ 0) (hx : -16990 ≤ x ∧ x ≤ 16990) : ∃ E K, Shd n x k E K := by
  obtain ⟨g1, g2, g3⟩ := gs_in hk hk0 hx
  obtain ⟨E, e1, e2, e3, e4⟩ := tn_ex (6000 - gsP k x).toNat (gsP k x) g1 (by rw [show gsP k x + ((6000 - gsP k x).toNat : Int) = 6000 by omega]; exact tn_top hk (by omega))
  have hl : 0 < lwN n x k * oE x E := Nat.mul_pos (by unfold lwN; split <;> decide) (oE_pos _ _)
  obtain ⟨K, h1, h2⟩ := st_ex (c := evK k) (R := 4 * k * oE x E) (u := 2 * oE x E) (zE_pos x E) hl
  exact ⟨E, K, e3, e4, h1, h2⟩
end Go.Proofs.YtogfiipmebgnjaaGreatDoor

namespace Go.Proofs.YtogfiipmebgnjaaGreatDoor
open Go.RowKit

theorem W4_none {k : Nat} (hk : k < 2 ^ 256) : decide (W4 k 0 = 0 ∧ W4 k 1 = 0 ∧ W4 k 2 = 0 ∧ W4 k 3 = 0) = decide (k = 0) := by
  by_cases h : k = 0
  · subst h
    rw [decide_eq_true (by simp [W4_zero]), decide_eq_true rfl]
  · rw [decide_eq_false h, decide_eq_false]
    rintro ⟨h0, h1, h2, h3⟩
    refine h (A4_inj hk (by decide) fun i hi => ?_)
    have : i = 0 ∨ i = 1 ∨ i = 2 ∨ i = 3 := by omega
    rcases this with rfl | rfl | rfl | rfl
    · rw [h0, W4_zero]
    · rw [h1, W4_zero]
    · rw [h2, W4_zero]
    · rw [h3, W4_zero]
attribute [local irreducible] W4
end Go.Proofs.YtogfiipmebgnjaaGreatDoor

namespace Go.Proofs.YtogfiipmebgnjaaGreatDoor
open Go.RowKit

theorem rscale2 {N D : Nat} {vn vd : Value} {w : World} (x : Int) (hx : -17000 ≤ x ∧ x ≤ 17000) (h : NT 900 N vn w) (h' : NT 900 D vd w) (hN : bl N ≤ 300) (hD : bl D ≤ 300) :
    Calls Tryz.prog 20 #[vn, vd, .int .u64 2, .int .i64 x] w fun e w' => ∃ a b, e = .returned (.tuple #[a, b]) ∧ NT 900 (N * 2 ^ x.toNat) a w' ∧ NT 900 (D * 2 ^ (-x).toNat) b w' ∧ Below w.heap.size w w' := by
  have hc : clZ x = x := by unfold clZ; omega
  have e1 : sN N x = N * 2 ^ x.toNat := by unfold sN; rw [hc]
  have e2 : sD D x = D * 2 ^ (-x).toNat := by unfold sD; rw [hc]
  have a1 := bl_mul N (2 ^ x.toNat)
  have a2 := bl_mul D (2 ^ (-x).toNat)
  have b1 := two_bl x.toNat
  have b2 := two_bl (-x).toNat
  refine (rscale_nt x (by decide) h h').mono fun e w' ⟨a, b, h1, h2, h3, h4⟩ => ⟨a, b, h1, ?_, ?_, h4⟩
  · rw [e1] at h2; exact h2.tight (by omega)
  · rw [e2] at h3; exact h3.tight (by omega)
theorem rscale10w {N D : Nat} {vn vd : Value} {w : World} (x : Int) (hx : -6100 ≤ x ∧ x ≤ 6100) (h : NT 900 N vn w) (h' : NT 900 D vd w) (hN : bl N ≤ 30000) (hD : bl D ≤ 30000) :
    Calls Tryz.prog 20 #[vn, vd, .int .u64 10, .int .i64 x] w fun e w' => ∃ a b, e = .returned (.tuple #[a, b]) ∧ NT 900 (N * 10 ^ x.toNat) a w' ∧ NT 900 (D * 10 ^ (-x).toNat) b w' ∧ Below w.heap.size w w' := by
  by_cases hp : 0 ≤ x
  · have c79 := rpower10 x.toNat w (by omega)
    rw [show ((x.toNat : Nat) : Int) = x by omega] at c79
    rw [show (-x).toNat = 0 by omega, Nat.pow_zero, Nat.mul_one]
    have b1 := bl_mul N (10 ^ x.toNat)
    have b2 := ten_bl x.toNat
    refine (rsc10_pos x vn vd (N * 10 ^ x.toNat) 900 w (by omega) hp (c79.mono fun e w' ⟨p, e1, e2, e3⟩ => ⟨p, e1, e3, (rtimes_nt (by decide) (by decide) (h.next e3).nv e2).mono fun e w'' ⟨r, f1, f2, f3⟩ => ⟨r, f1, f2.tight (by omega), f3⟩⟩)).mono fun e w' ⟨r, e1, e2, e3⟩ => ⟨_, _, e1, e2, h'.next e3, e3⟩
  · have c79 := rpower10 (-x).toNat w (by omega)
    rw [show (((-x).toNat : Nat) : Int) = -x by omega] at c79
    rw [show x.toNat = 0 by omega, Nat.pow_zero, Nat.mul_one]
    have b1 := bl_mul D (10 ^ (-x).toNat)
    have b2 := ten_bl (-x).toNat
    refine (rsc10_neg x vn vd (D * 10 ^ (-x).toNat) 900 w (by omega) (-x) rfl hp (c79.mono fun e w' ⟨p, e1, e2, e3⟩ => ⟨p, e1, e3, (rtimes_nt (by decide) (by decide) (h'.next e3).nv e2).mono fun e w'' ⟨r, f1, f2, f3⟩ => ⟨r, f1, f2.tight (by omega), f3⟩⟩)).mono fun e w' ⟨r, e1, e2, e3⟩ => ⟨_, _, e1, h.next e3, e2, e3⟩
theorem nt_at0 {W : World} {g k : Nat} (hk : k < 2 ^ 256) (hg : g < W.heap.size) (h0 : W.cell? ⟨g, 0, none⟩ = some (.int .u64 (W4 k 0))) (h1 : W.cell? ⟨g, 1, none⟩ = some (.int .u64 (W4 k 1))) (h2 : W.cell? ⟨g, 2, none⟩ = some (.int .u64 (W4 k 2))) (h3 : W.cell? ⟨g, 3, none⟩ = some (.int .u64 (W4 k 3))) :
    Nt 4 k (.slice (some ⟨g, 0, none⟩) 4 4) W := by
  unfold Nt
  refine ⟨some ⟨g, 0, none⟩, 4, 4, fun i => if i < 4 then W4 k i else 0, rfl, Nat.le_refl _, ⟨Nat.le_refl _, by unfold maxLen; omega, fun i => ?_, fun i hi => if_neg (by omega), Or.inr ⟨g, 0, rfl, hg, fun i hi => ?_⟩⟩, ?_⟩
  · dsimp only
    split
    · exact W4_words k i
    · exact ⟨Int.le_refl _, by decide⟩
  · have : i = 0 ∨ i = 1 ∨ i = 2 ∨ i = 3 := by omega
    rcases this with rfl | rfl | rfl | rfl
    · exact h0
    · exact h1
    · exact h2
    · exact h3
  · have e := W4_val4 hk
    rw [← e]
    simp [val]
attribute [local irreducible] W4 Nz Nt NT NV
set_option maxHeartbeats 1000000 in
theorem rnat_v (k : Nat) (w : World) (hk : k < 2 ^ 256) :
    Calls Tryz.prog 36 #[A4 k] w fun r w' => ∃ v, r = .returned v ∧ NT 4 k v w' ∧ Below w.heap.size w w' := by
  have hn0 : Nt 4 k (.slice (some ⟨w.heap.size, 0, none⟩) 4 4) (w.alloc (.cells #[.int .u64 (W4 k 0), .int .u64 (W4 k 1), .int .u64 (W4 k 2), .int .u64 (W4 k 3)] 24)) := nt_at0 hk (by simp) (by go_simp) (by go_simp) (by go_simp) (by go_simp)
  have c49 := rtrim_nt (by decide) hn0
  have hb0 := below1 w (.cells #[.int .u64 (W4 k 0), .int .u64 (W4 k 1), .int .u64 (W4 k 2), .int .u64 (W4 k 3)] 24)
  clear hn0
  unfold A4
  go_enter Tryz.func36, Tryz.ntmps36
  go_wp2_with (go_at_call 48; refine c49.mono ?_; rintro r w1 ⟨v, rfl, hv, hb1⟩)
  go_ret
  exact ⟨v, rfl, hv, bnx hb0 hb1⟩
section
variable {a : Act} {w : World} {K : Act → World → Prop} {Q : Exit → Act → World → Prop} {d p q : Nat} {ty : TypeId} {pos : String} {after : Array Edge} {gd : Option (Nat × Bool)}
theorem oq_V1_0 {g : Nat} (h1 : slot a p = .pointer (some ⟨g, 0, none⟩)) (hK : K (a.put (some d) (.pointer (some ⟨g, 4, none⟩))) w) : Oper.wp Tryz.prog { dst := some d, op := Op.fieldAddr 34 (Operand.tmp p) 4, type := ty, pos := pos, after := after, guard := gd } a w K Q := by
  unfold slot at h1
  simp [go_sem, h1]
  exact hK
theorem oq_V1_1 {p0 : Nat} {u0 : Value} {ts : Array TypeId} (h0 : slot a p0 = u0) (hc : Calls Tryz.prog 36 #[u0] w fun e w' => ∃ v, e = .returned v ∧ K (a.put (some d) v) w') : Oper.wp Tryz.prog { dst := some d, op := Op.call { callee := Callee.value (Operand.func 36), args := #[Operand.tmp p0], argTypes := ts }, type := ty, pos := pos, after := after, guard := gd } a w K Q := by
  unfold slot at h0
  simp [go_sem, h0]
  refine hc.mono ?_
  rintro e w' ⟨v, rfl, hK⟩
  exact hK
theorem oq_V1_2 {v : Value} (h1 : slot a p = v) (hK : K (a.put (some d) v) w) : Oper.wp Tryz.prog { dst := some d, op := Op.move (Operand.tmp p), type := ty, pos := pos, after := after, guard := gd } a w K Q := by
  unfold slot at h1
  simp [go_sem, h1]
  exact hK
theorem oq_V1_3 {g : Nat} (h1 : slot a p = .pointer (some ⟨g, 0, none⟩)) (hK : K (a.put (some d) (.pointer (some ⟨g, 3, none⟩))) w) : Oper.wp Tryz.prog { dst := some d, op := Op.fieldAddr 34 (Operand.tmp p) 3, type := ty, pos := pos, after := after, guard := gd } a w K Q := by
  unfold slot at h1
  simp [go_sem, h1]
  exact hK
theorem oq_V1_4 {g i : Nat} {v : Value} (h1 : slot a p = .pointer (some ⟨g, i, none⟩)) (h2 : w.cell? ⟨g, i, none⟩ = some v) (hK : K (a.put (some d) v) w) : Oper.wp Tryz.prog { dst := some d, op := Op.load 3 (Operand.tmp p), type := ty, pos := pos, after := after, guard := gd } a w K Q := by
  unfold slot at h1
  simp [go_sem, h1, h2]
  exact hK
theorem oq_V1_5 {p0 : Nat} {u0 : Value} {p1 : Nat} {u1 : Value} {p2 : Nat} {u2 : Value} {p3 : Nat} {u3 : Value} {ts : Array TypeId} (h0 : slot a p0 = u0) (h1 : slot a p1 = u1) (h2 : slot a p2 = u2) (h3 : slot a p3 = u3) (hc : Calls Tryz.prog 20 #[u0, u1, u2, u3] w fun e w' => ∃ v, e = .returned v ∧ K (a.put (some d) v) w') : Oper.wp Tryz.prog { dst := some d, op := Op.call { callee := Callee.value (Operand.func 20), args := #[Operand.tmp p0, Operand.tmp p1, Operand.tmp p2, Operand.tmp p3], argTypes := ts }, type := ty, pos := pos, after := after, guard := gd } a w K Q := by
  unfold slot at h0 h1 h2 h3
  simp [go_sem, h0, h1, h2, h3]
  refine hc.mono ?_
  rintro e w' ⟨v, rfl, hK⟩
  exact hK
end
noncomputable def opsV1 : List Oper := match Tryz.f16.body with
  | some (.seq _ (.seq (.region _ o _) _)) => o.toList
  | _ => []
def slotsV1 : List Nat := [6, 7, 8, 9, 10, 11, 12, 13, 14, 15]
section
variable {a : Act} {w : World} {K : Act → World → Prop} {Q : Exit → Act → World → Prop} {d p q p2 p3 p4 : Nat} {ty : TypeId} {pos : String} {after : Array Edge} {gd : Option (Nat × Bool)}
theorem oq_l24 {g k : Nat} (h1 : slot a p = .pointer (some ⟨g, 4, none⟩)) (c0 : w.cell? ⟨g, 4, none⟩ = some (.int .u64 (W4 k 0))) (c1 : w.cell? ⟨g, 5, none⟩ = some (.int .u64 (W4 k 1))) (c2 : w.cell? ⟨g, 6, none⟩ = some (.int .u64 (W4 k 2))) (c3 : w.cell? ⟨g, 7, none⟩ = some (.int .u64 (W4 k 3))) (hK : K (a.put (some d) (A4 k)) w) :
    Oper.wp Tryz.prog { dst := some d, op := Op.load 24 (Operand.tmp p), type := ty, pos := pos, after := after, guard := gd } a w K Q := by
  unfold slot at h1
  simp [go_sem, h1, c0, c1, c2, c3]
  exact hK
theorem oq_bs1 (hK : K (a.put (some d) (.slice (some ⟨w.heap.size, 0, none⟩) 1 1)) (w.alloc (.cells #[.int .u64 1] 22))) :
    Oper.wp Tryz.prog { dst := some d, op := Op.buildSlice 39 1 #[(0, Operand.const (Value.int IntKind.u64 1))], type := ty, pos := pos, after := after, guard := gd } a w K Q := by
  simp [go_sem]
  exact hK
theorem oq_ex0 {u v : Value} (h1 : slot a p = .tuple #[u, v]) (hK : K (a.put (some d) u) w) : Oper.wp Tryz.prog { dst := some d, op := Op.extract (Operand.tmp p) 0, type := ty, pos := pos, after := after, guard := gd } a w K Q := by
  unfold slot at h1
  simp [go_sem, h1]
  exact hK
theorem oq_ex1 {u v : Value} (h1 : slot a p = .tuple #[u, v]) (hK : K (a.put (some d) v) w) : Oper.wp Tryz.prog { dst := some d, op := Op.extract (Operand.tmp p) 1, type := ty, pos := pos, after := after, guard := gd } a w K Q := by
  unfold slot at h1
  simp [go_sem, h1]
  exact hK
end
set_option maxHeartbeats 8000000 in
theorem regV1 {h4 k A B : Nat} {x : Int} {a0 : Act} {ws : World} {Q : Exit → Act → World → Prop} (hs : a0.tmps.size = 16) (g2 : slot a0 2 = .pointer (some ⟨h4, 0, none⟩)) (g1 : slot a0 1 = .int .u64 2) (hlt : h4 < ws.heap.size) (k3 : ws.cell? ⟨h4, 3, none⟩ = some (.int .i64 x)) (k4 : ws.cell? ⟨h4, 4, none⟩ = some (.int .u64 (W4 k 0))) (k5 : ws.cell? ⟨h4, 5, none⟩ = some (.int .u64 (W4 k 1))) (k6 : ws.cell? ⟨h4, 6, none⟩ = some (.int .u64 (W4 k 2))) (k7 : ws.cell? ⟨h4, 7, none⟩ = some (.int .u64 (W4 k 3)))
    (c26 : ∀ W, Calls Tryz.prog 36 #[A4 k] W fun e w' => ∃ v, e = .returned v ∧ NT 4 k v w' ∧ Below W.heap.size W w')
    (c30 : ∀ W v v', NT 4 k v W → NT 1 1 v' W → Calls Tryz.prog 20 #[v, v', .int .u64 2, .int .i64 x] W fun e w' => ∃ u, e = .returned u ∧ (∃ a b, u = .tuple #[a, b] ∧ NT 900 A a w' ∧ NT 900 B b w') ∧ Below W.heap.size W w')
    (hQ : ∀ (a : Act) (w : World) (x0 x1 : Value), slot a 4 = x0 → slot a 5 = x1 → NT 900 A x0 w → NT 900 B x1 w → a.tmps.size = 16 → a.defers = a0.defers → Below ws.heap.size ws w → Q .normal a w) :
    (Code.region 1 opsV1.toArray true).wp Tryz.prog Q a0 ws := by
  refine wp_region_mem 10 16 slotsV1 [isW (.pointer (some ⟨h4, 4, none⟩)), isW (A4 k), NT 4 k, NT 1 1, isW (.int .u64 2), isW (.pointer (some ⟨h4, 3, none⟩)), isW (.int .i64 x), (fun v w => ∃ a b, v = .tuple #[a, b] ∧ NT 900 A a w ∧ NT 900 B b w), NT 900 A, NT 900 B] (fun w w' => Below w.heap.size w w') (fun _ _ w => Below ws.heap.size ws w) (by kernel_rfl) (by kernel_rfl) (by kernel_rfl) hs ?_ (Below.refl _ _).drew ?_ ?_
  · intro p hp
    simp only [List.mem_cons, List.not_mem_nil, or_false] at hp
    rcases hp with rfl | rfl | rfl | rfl | rfl | rfl | rfl | rfl | rfl | rfl
    all_goals first | exact fun _ _ _ h _ => h | exact fun _ _ _ h hb => h.next hb | exact fun _ _ _ ⟨a, b, e, z0, z1⟩ hb => ⟨a, b, e, z0.next hb, z1.next hb⟩
  · intro L i o a w hi ho hL hcl he hM hF hv
    have f2 : slot a 2 = .pointer (some ⟨h4, 0, none⟩) := (hF 2 (by decide)).trans g2
    have f1 : slot a 1 = .int .u64 2 := (hF 1 (by decide)).trans g1
    have hor : i = 0 ∨ i = 1 ∨ i = 2 ∨ i = 3 ∨ i = 4 ∨ i = 5 ∨ i = 6 ∨ i = 7 ∨ i = 8 ∨ i = 9 := by omega
    rcases hor with rfl | rfl | rfl | rfl | rfl | rfl | rfl | rfl | rfl | rfl
    · obtain rfl := Option.some.inj (show opsV1[0]? = some o from ho)
      exact oq_V1_0 (f2 : slot a 2 = .pointer (some ⟨h4, 0, none⟩)) ⟨_, rfl, rfl, Below.refl _ _, hM⟩
    · obtain rfl := Option.some.inj (show opsV1[1]? = some o from ho)
      exact oq_l24 (hv 0 (by decide) rfl (he ⟨0, .data⟩ (by simp) rfl) : slot a 6 = .pointer (some ⟨h4, 4, none⟩)) ((hM.cell (p := ⟨h4, 4, none⟩) hlt).trans k4) ((hM.cell (p := ⟨h4, 5, none⟩) hlt).trans k5) ((hM.cell (p := ⟨h4, 6, none⟩) hlt).trans k6) ((hM.cell (p := ⟨h4, 7, none⟩) hlt).trans k7) ⟨_, rfl, rfl, Below.refl _ _, hM⟩
    · obtain rfl := Option.some.inj (show opsV1[2]? = some o from ho)
      refine oq_V1_1 (hv 1 (by decide) rfl (he ⟨1, .data⟩ (by simp) rfl) : slot a 7 = A4 k) ((c26 w).mono ?_)
      rintro e w' ⟨v, rfl, hSv, hb⟩
      exact ⟨v, rfl, _, rfl, hSv, hb, bnx hM hb⟩
    · obtain rfl := Option.some.inj (show opsV1[3]? = some o from ho)
      have hb := below1 w (.cells #[.int .u64 1] 22)
      exact oq_bs1 ⟨_, rfl, nt_un1 rfl rfl (by decide) (by decide), hb, bnx hM hb⟩
    · obtain rfl := Option.some.inj (show opsV1[4]? = some o from ho)
      exact oq_V1_2 (f1 : slot a 1 = .int .u64 2) ⟨_, rfl, rfl, Below.refl _ _, hM⟩
    · obtain rfl := Option.some.inj (show opsV1[5]? = some o from ho)
      exact oq_V1_3 (f2 : slot a 2 = .pointer (some ⟨h4, 0, none⟩)) ⟨_, rfl, rfl, Below.refl _ _, hM⟩
    · obtain rfl := Option.some.inj (show opsV1[6]? = some o from ho)
      exact oq_V1_4 (hv 5 (by decide) rfl (he ⟨5, .data⟩ (by simp) rfl) : slot a 11 = .pointer (some ⟨h4, 3, none⟩)) ((hM.cell (p := ⟨h4, 3, none⟩) hlt).trans k3) ⟨_, rfl, rfl, Below.refl _ _, hM⟩
    · obtain rfl := Option.some.inj (show opsV1[7]? = some o from ho)
      refine oq_V1_5 rfl rfl (hv 4 (by decide) rfl (he ⟨4, .data⟩ (by simp) rfl) : slot a 10 = .int .u64 2) (hv 6 (by decide) rfl (he ⟨6, .data⟩ (by simp) rfl) : slot a 12 = .int .i64 x) ((c30 w _ _ (hv 2 (by decide) rfl (he ⟨2, .data⟩ (by simp) rfl)) (hv 3 (by decide) rfl (he ⟨3, .data⟩ (by simp) rfl))).mono ?_)
      rintro e w' ⟨v, rfl, hSv, hb⟩
      exact ⟨v, rfl, _, rfl, hSv, hb, bnx hM hb⟩
    · obtain rfl := Option.some.inj (show opsV1[8]? = some o from ho)
      obtain ⟨x0, x1, e13, z0, z1⟩ : ∃ x0 x1, slot a 13 = .tuple #[x0, x1] ∧ NT 900 A x0 w ∧ NT 900 B x1 w := (hv 7 (by decide) rfl (he ⟨7, .data⟩ (by simp) rfl))
      exact oq_ex0 e13 ⟨_, rfl, z0, Below.refl _ _, hM⟩
    · obtain rfl := Option.some.inj (show opsV1[9]? = some o from ho)
      obtain ⟨x0, x1, e13, z0, z1⟩ : ∃ x0 x1, slot a 13 = .tuple #[x0, x1] ∧ NT 900 A x0 w ∧ NT 900 B x1 w := (hv 7 (by decide) rfl (he ⟨7, .data⟩ (by simp) rfl))
      exact oq_ex1 e13 ⟨_, rfl, z1, Below.refl _ _, hM⟩
  · intro L a w hL hM hsz hdf hF hv
    have z0 : NT 900 A (slot a 14) w := hv 8 (by decide) rfl
    have z1 : NT 900 B (slot a 15) w := hv 9 (by decide) rfl
    refine BigFrame.wpList_want rfl fun K hK => oq_a_as rfl (hK _ _ ?_)
    clear K hK
    have e15 : slot (a.put (some 4) (slot a 14)) 15 = slot a 15 := by rw [slot_put_ne (by decide)]
    refine BigFrame.wpList_want rfl fun K hK => oq_a_as e15 (hK _ _ ?_)
    clear K hK
    refine hQ _ _ _ _ ?_ (slot_put (by simp [Act.put]; omega)) z0 z1 (by simp [Act.put, hsz]) hdf hM
    rw [slot_put_ne (by decide)]
    exact slot_put (by omega)
end Go.Proofs.YtogfiipmebgnjaaGreatDoor

namespace Go.Proofs.YtogfiipmebgnjaaGreatDoor
open Go.RowKit

attribute [local irreducible] W4 Nz Nt NT NV
set_option maxHeartbeats 2000000 in
theorem rvalue_v (c : Int) (s g : Bool) (x : Int) (k : Nat) (w : World) (hk : k < 2 ^ 256) (hx : -16990 ≤ x ∧ x ≤ 16990) :
    Calls Tryz.prog 16 #[DV c s g x k, .int .u64 2] w fun r w' => ∃ a b, r = .returned (.tuple #[a, b]) ∧ NT 900 (k * 2 ^ x.toNat) a w' ∧ NT 900 (2 ^ (-x).toNat) b w' ∧ Below w.heap.size w w' := by
  have hbk : bl k ≤ 256 := bl_le.2 hk
  have c26 := fun W => rnat_v k W hk
  have c30 : ∀ W v v', NT 4 k v W → NT 1 1 v' W → Calls Tryz.prog 20 #[v, v', .int .u64 2, .int .i64 x] W fun e w' => ∃ u, e = .returned u ∧ (∃ a b, u = .tuple #[a, b] ∧ NT 900 (k * 2 ^ x.toNat) a w' ∧ NT 900 (2 ^ (-x).toNat) b w') ∧ Below W.heap.size W w' := fun W v v' h1 h2 =>
    (rscale2 x (by omega) (h1.more (by decide)) (h2.more (by decide)) (by omega) (by decide)).mono fun e w' ⟨a, b, e1, e2, e3, e4⟩ => ⟨_, e1, ⟨a, b, rfl, e2, by rw [Nat.one_mul] at e3; exact e3⟩, e4⟩
  have hb0 := below1 w (.cells #[.int .i64 c, .bool s, .bool g, .int .i64 x, .int .u64 (W4 k 0), .int .u64 (W4 k 1), .int .u64 (W4 k 2), .int .u64 (W4 k 3)] 34)
  unfold DV
  go_enter Tryz.func16, Tryz.ntmps16
  go_wp2
  refine regV1 (h4 := w.heap.size) (k := k) (x := x) (A := k * 2 ^ x.toNat) (B := 2 ^ (-x).toNat) rfl rfl rfl (by simp) (by go_simp) (by go_simp) (by go_simp) (by go_simp) (by go_simp) c26 c30 ?_
  intro a w1 x0 x1 u4 u5 z0 z1 hsz hdf hb1
  go_wp2
  refine bodyPost_ret (v := .tuple #[x0, x1]) ?_ hdf ⟨x0, x1, rfl, z0, z1, bnx hb0 hb1⟩
  unfold slot at u4 u5
  rw [Array.getElem?_eq_getElem (by omega)] at u4 u5
  simp only [results, Tryz.results16]
  go_simp
theorem tn_cmp {k : Nat} {x e : Int} : tnP k x e ↔ 2 ^ (-x).toNat * 10 ^ e.toNat ≤ k * 2 ^ x.toNat * 10 ^ (-e).toNat := by
  unfold tnP zE oE
  rw [Nat.mul_assoc 4, Nat.mul_assoc 4, Nat.mul_assoc k]
  exact Nat.mul_le_mul_left_iff (by decide)
set_option maxHeartbeats 4000000 in
theorem rtens_w (vn vd : Value) (LN LD E : Int) (w : World) (T : Int → Prop) (hL : 0 ≤ LN ∧ LN ≤ 17300 ∧ 0 ≤ LD ∧ LD ≤ 17300) (hE : -6000 ≤ E ∧ E ≤ 6000) (t1 : ∀ e, e ≤ E → T e) (t2 : ∀ e, E < e → ¬ T e)
    (c56n : ∀ W, Below w.heap.size w W → Calls Tryz.prog 73 #[vn] W fun r w' => r = .returned (.int .i64 LN) ∧ W = w')
    (c56d : ∀ W, Below w.heap.size w W → Calls Tryz.prog 73 #[vd] W fun r w' => r = .returned (.int .i64 LD) ∧ W = w')
    (cy : ∀ W e (y : Int), y = -e → -6060 ≤ e ∧ e ≤ 6060 → T e → Below w.heap.size w W → Calls Tryz.prog 20 #[vn, vd, .int .u64 10, .int .i64 y] W fun r w' => ∃ a b, r = .returned (.tuple #[a, b]) ∧ (Calls Tryz.prog 18 #[a, b] w' fun r w'' => ∃ sv : Int, r = .returned (.int .i64 sv) ∧ ¬ sv < 0 ∧ w' = w'') ∧ Below W.heap.size W w')
    (cn : ∀ W e (y : Int), y = -e → -6060 ≤ e ∧ e ≤ 6060 → ¬ T e → Below w.heap.size w W → Calls Tryz.prog 20 #[vn, vd, .int .u64 10, .int .i64 y] W fun r w' => ∃ a b, r = .returned (.tuple #[a, b]) ∧ (Calls Tryz.prog 18 #[a, b] w' fun r w'' => ∃ sv : Int, r = .returned (.int .i64 sv) ∧ sv < 0 ∧ w' = w'') ∧ Below W.heap.size W w') :
    Calls Tryz.prog 29 #[vn, vd] w fun r w' => r = .returned (.int .i64 E) ∧ Below w.heap.size w w' := by
  have hgs := gs_bd (LN - LD) (by omega)
  have HG : Hid (-6000 ≤ ((LN - LD) * 30103).tdiv 100000 ∧ ((LN - LD) * 30103).tdiv 100000 ≤ 6000) := by
    show _ ∧ _
    by_cases h0 : 0 ≤ LN - LD
    · rw [Int.tdiv_eq_ediv_of_nonneg (by omega)]; omega
    · rw [show (LN - LD) * 30103 = -(-(LN - LD) * 30103) by omega, Int.neg_tdiv, Int.tdiv_eq_ediv_of_nonneg (by omega)]; omega
  go_enter Tryz.func29, Tryz.ntmps29
  go_wp2_with (first
    | (go_at_call_of 73 vn; refine (c56n _ bgo).mono ?_; rintro r w1 ⟨rfl, rfl⟩)
    | (go_at_call_of 73 vd; refine (c56d _ bgo).mono ?_; rintro r w1 ⟨rfl, rfl⟩))
  have hg := HG.out
  generalize ((LN - LD) * 30103).tdiv 100000 = e0 at *
  clear hgs HG c56n c56d
  rename World => w
  go_loopw [5] (fun t5 wr => ∃ e : Int, t5 = .int .i64 e ∧ -6000 ≤ e ∧ e ≤ 6000 ∧ Below w.heap.size w wr) (fun t5 _ => (intOf t5 - E).natAbs)
  case atStart => exact ⟨e0, rfl, hg.1, hg.2, Below.refl _ _⟩
  case round =>
    obtain ⟨e, rfl, h1, h2, hB⟩ := hrel
    by_cases hlt : E < e
    · have c30 := cn wr e (-e) rfl (by omega) (t2 e hlt) hB
      go_wp2_with (first
        | (go_at_call 20; refine c30.mono ?_; rintro r w1 ⟨a1, b1, rfl, c38, hb1⟩)
        | (go_at_call 18; refine c38.mono ?_; rintro r w2 ⟨sv, rfl, hsv, rfl⟩))
      go_roundw
      case rel => exact ⟨e - 1, by go_num, by omega, by omega, bnx hB hb1⟩
      case measure => simp [intOf]; omega
    · have c30 := cy wr e (-e) rfl (by omega) (t1 e (by omega)) hB
      by_cases heq : e = E
      · subst heq
        have c30b := fun W (hW : Below w.heap.size w W) => cn W (e + 1) (-e - 1) (by omega) (by omega) (t2 _ (by omega)) hW
        go_wp2_with (first
          | (go_at_call 20; refine (c30b _ (bnx hB hb1)).mono ?_; rintro r w3 ⟨a2, b2, rfl, d38, hb3⟩)
          | (go_at_call 20; refine c30.mono ?_; rintro r w1 ⟨a1, b1, rfl, c38, hb1⟩)
          | (go_at_call 18; refine d38.mono ?_; rintro r w4 ⟨sv2, rfl, hsv2, rfl⟩)
          | (go_at_call 18; refine c38.mono ?_; rintro r w2 ⟨sv, rfl, hsv, rfl⟩))
        go_ret
        exact ⟨rfl, bnx (bnx hB hb1) hb3⟩
      · have c30b := fun W (hW : Below w.heap.size w W) => cy W (e + 1) (-e - 1) (by omega) (by omega) (t1 _ (by omega)) hW
        go_wp2_with (first
          | (go_at_call 20; refine (c30b _ (bnx hB hb1)).mono ?_; rintro r w3 ⟨a2, b2, rfl, d38, hb3⟩)
          | (go_at_call 20; refine c30.mono ?_; rintro r w1 ⟨a1, b1, rfl, c38, hb1⟩)
          | (go_at_call 18; refine d38.mono ?_; rintro r w4 ⟨sv2, rfl, hsv2, rfl⟩)
          | (go_at_call 18; refine c38.mono ?_; rintro r w2 ⟨sv, rfl, hsv, rfl⟩))
        go_roundw
        case rel => exact ⟨e + 1, by go_num, by omega, by omega, bnx (bnx hB hb1) hb3⟩
        case measure => simp [intOf]; omega
/-- the first digit's place -/
theorem rtens_v {k : Nat} {x E : Int} {vn vd : Value} {w : World} (hk : k < 2 ^ 256) (hx : -16990 ≤ x ∧ x ≤ 16990) (hE : -6000 ≤ E ∧ E ≤ 6000) (h0 : tnP k x E) (h1 : ¬ tnP k x (E + 1)) (hn : NT 900 (k * 2 ^ x.toNat) vn w) (hd : NT 900 (2 ^ (-x).toNat) vd w) :
    Calls Tryz.prog 29 #[vn, vd] w fun r w' => r = .returned (.int .i64 E) ∧ Below w.heap.size w w' := by
  have hbk : bl k ≤ 256 := bl_le.2 hk
  have b1 := bl_mul k (2 ^ x.toNat)
  have b2 := two_bl x.toNat
  have b3 := two_bl (-x).toNat
  have sc : ∀ W e (y : Int), y = -e → -6060 ≤ e ∧ e ≤ 6060 → Below w.heap.size w W → Calls Tryz.prog 20 #[vn, vd, .int .u64 10, .int .i64 y] W fun r w' => ∃ a b, r = .returned (.tuple #[a, b]) ∧ (Calls Tryz.prog 18 #[a, b] w' fun r w'' => r = .returned (.int .i64 (sgn ((k * 2 ^ x.toNat * 10 ^ (-e).toNat : Nat) : Int) ((2 ^ (-x).toNat * 10 ^ e.toNat : Nat) : Int))) ∧ w' = w'') ∧ Below W.heap.size W w' := by
    rintro W e y rfl he hW
    refine (rscale10w (-e) (by omega) (hn.next hW) (hd.next hW) (by omega) (by omega)).mono fun r w' ⟨a, b, e1, e2, e3, e4⟩ => ⟨a, b, e1, ?_, e4⟩
    rw [Int.neg_neg] at e3
    exact rcmp_nv (by decide) (by decide) e2.nv e3.nv
  refine rtens_w vn vd (bl (k * 2 ^ x.toNat)) (bl (2 ^ (-x).toNat)) E w (fun e => tnP k x e) (by omega) hE (fun e he => tn_le h0 he) (fun e he h' => h1 (tn_le h' (by omega))) (fun W hW => rlen_nv (by decide) (hn.next hW).nv) (fun W hW => rlen_nv (by decide) (hd.next hW).nv) ?_ ?_
  · intro W e y hy he ht hW
    refine (sc W e y hy he hW).mono fun r w' ⟨a, b, e1, e2, e3⟩ => ⟨a, b, e1, e2.mono fun r w'' ⟨f1, f2⟩ => ⟨_, f1, ?_, f2⟩, e3⟩
    have := tn_cmp.1 ht
    rcases sgn_ways ((k * 2 ^ x.toNat * 10 ^ (-e).toNat : Nat) : Int) ((2 ^ (-x).toNat * 10 ^ e.toNat : Nat) : Int) with ⟨a, e⟩ | ⟨a, e⟩ | ⟨a, e⟩
    · have := Int.ofNat_lt.1 a; omega
    · omega
    · omega
  · intro W e y hy he ht hW
    refine (sc W e y hy he hW).mono fun r w' ⟨a, b, e1, e2, e3⟩ => ⟨a, b, e1, e2.mono fun r w'' ⟨f1, f2⟩ => ⟨_, f1, ?_, f2⟩, e3⟩
    have := mt tn_cmp.2 ht
    rcases sgn_ways ((k * 2 ^ x.toNat * 10 ^ (-e).toNat : Nat) : Int) ((2 ^ (-x).toNat * 10 ^ e.toNat : Nat) : Int) with ⟨a, e⟩ | ⟨a, e⟩ | ⟨a, e⟩
    · omega
    · exact absurd (Nat.le_of_eq (Int.ofNat_inj.1 a.symm)) this
    · exact absurd (Nat.le_of_lt (Int.ofNat_lt.1 a)) this
end Go.Proofs.YtogfiipmebgnjaaGreatDoor

namespace Go.Proofs.YtogfiipmebgnjaaGreatDoor
open Go.RowKit

theorem NT.head {K V : Nat} {v : Value} {w : World} (h : NT K V v w) (hV : V ≠ 0) : ∃ g k cap z0, v = .slice (some ⟨g, 0, none⟩) k cap ∧ 0 < k ∧ k ≤ K ∧ g < w.heap.size ∧ w.cell? ⟨g, 0, none⟩ = some (.int .u64 z0) ∧ 0 ≤ z0 ∧ z0 ≤ 18446744073709551615 ∧ z0 % 2 = ((V % 2 : Nat) : Int) := by
  have hz := h.zero
  obtain ⟨g, k, cap, z, rfl, hk, ⟨n1, n2, n3, n4, n5⟩, hv, hs⟩ := h
  obtain ⟨g', k', cap', e, _, hz'⟩ := hz
  cases e
  have hk0 : k ≠ 0 := fun e => hV (hz'.1 e)
  rcases n5 with ⟨n5, _⟩ | ⟨b, off, e, hb, hc⟩
  · cases n5
  · cases e
    have hc0 := hc 0 (by omega)
    have hw := n3 0
    have hp := val_odd (by omega : 0 < k) hv
    exact ⟨g, k, cap, z 0, rfl, by omega, hk, hb, hc0, hw.1, hw.2, by omega⟩
attribute [local irreducible] W4 Nz Nt NT NV
end Go.Proofs.YtogfiipmebgnjaaGreatDoor

namespace Go.Proofs.YtogfiipmebgnjaaGreatDoor
open Go.RowKit

theorem dV_snoc {l : List UInt8} {c : UInt8} (hl : l.all dg = true) (hc : dg c = true) : dV (l ++ [c]) = 10 * dV l + (c.toNat - 48) := by
  have hall : (l ++ [c]).all dg = true := by rw [List.all_append, hl]; simp [hc]
  have h1 := (dV_lt hall).2
  have h2 := (dV_lt hl).2
  have hcd : 48 ≤ c.toNat ∧ c.toNat ≤ 57 := of_decide_eq_true hc
  have hA := numV_app (s := B (l ++ [c])) (u := B [c]) l.length 1 (fun i hi => by
    rw [sb_by, sb_by, by_app_at])
  have hC := numV_app (s := B (l ++ [c])) (u := B l) 0 l.length (fun i hi => by
    rw [sb_by, sb_by, Nat.zero_add]
    unfold by_
    have hi2 : i < (l ++ [c]).length := by rw [List.length_append]; omega
    rw [dif_pos hi, dif_pos hi2, List.getElem_append_left hi])
  have e0 : numV (B (l ++ [c])) 0 = 0 := rfl
  have e1 : numV (B [c]) 1 = (c.toNat : Int) - 48 := by
    have : numV (B [c]) 1 = numV (B [c]) 0 * 10 + (sb (B [c]) 0 - 48) := rfl
    rw [this, sb_by, by_zero]
    have : numV (B [c]) 0 = 0 := rfl
    omega
  rw [Nat.zero_add, e0, Int.zero_mul, Int.zero_add] at hC
  rw [B_size] at h1 h2
  rw [show (l ++ [c]).length = l.length + 1 by simp, hA, hC, e1, ← h2] at h1
  omega
theorem dg_uniq : ∀ (n : Nat) (l l' : List UInt8), l.length = n → l'.length = n → l.all dg = true → l'.all dg = true → dV l = dV l' → l = l'
  | 0, l, l', h, h', _, _, _ => by rw [List.length_eq_zero_iff.1 h, List.length_eq_zero_iff.1 h']
  | n + 1, l, l', h, h', hd, hd', hv => by
    rcases List.eq_nil_or_concat l with rfl | ⟨m, c, rfl⟩
    · cases h
    · rcases List.eq_nil_or_concat l' with rfl | ⟨m', c', rfl⟩
      · cases h'
      · rw [List.concat_eq_append] at *
        rw [List.concat_eq_append] at *
        rw [List.all_append] at hd hd'
        simp at hd hd'
        have hm : m.all dg = true := List.all_eq_true.2 hd.1
        have hm' : m'.all dg = true := List.all_eq_true.2 hd'.1
        rw [dV_snoc hm hd.2, dV_snoc hm' hd'.2] at hv
        have c1 : 48 ≤ c.toNat ∧ c.toNat ≤ 57 := of_decide_eq_true hd.2
        have c2 : 48 ≤ c'.toNat ∧ c'.toNat ≤ 57 := of_decide_eq_true hd'.2
        have e1 : dV m = dV m' := by omega
        have e2 : c = c' := UInt8.toNat_inj.1 (by omega)
        rw [dg_uniq n m m' (by simp at h; exact h) (by simp at h'; exact h') hm hm' e1, e2]
theorem gd_uniq {l l' : List UInt8} (h : gdD l) (h' : gdD l') (hv : dV l = dV l') : l = l' := by
  rcases h with rfl | ⟨h1, h2⟩
  · rcases h' with rfl | ⟨h1', h2'⟩
    · rfl
    · unfold isd at h1'
      simp at h1'
      have := dV_ge (List.all_eq_true.2 h1'.1) h2' h1'.2
      rw [← hv, dV_nil] at this
      have := Nat.pow_pos (n := l'.length - 1) (by decide : 0 < 10)
      omega
  · rcases h' with rfl | ⟨h1', h2'⟩
    · unfold isd at h1
      simp at h1
      have := dV_ge (List.all_eq_true.2 h1.1) h2 h1.2
      rw [hv, dV_nil] at this
      have := Nat.pow_pos (n := l.length - 1) (by decide : 0 < 10)
      omega
    · unfold isd at h1 h1'
      simp at h1 h1'
      have a1 := List.all_eq_true.2 h1.1
      have a2 := List.all_eq_true.2 h1'.1
      have g1 := dV_ge a1 h2 h1.2
      have g2 := dV_ge a2 h2' h1'.2
      have l1 := (dV_lt a1).1
      have l2 := (dV_lt a2).1
      have p1 : 0 < l.length := List.length_pos_iff.2 h1.2
      have p2 : 0 < l'.length := List.length_pos_iff.2 h1'.2
      have hlen : l.length = l'.length := by
        rcases Nat.lt_trichotomy l.length l'.length with h | h | h
        · have := Nat.pow_le_pow_right (n := 10) (by decide) (show l.length ≤ l'.length - 1 by omega)
          omega
        · exact h
        · have := Nat.pow_le_pow_right (n := 10) (by decide) (show l'.length ≤ l.length - 1 by omega)
          omega
      exact dg_uniq _ l l' hlen rfl a1 a2 hv
end Go.Proofs.YtogfiipmebgnjaaGreatDoor

namespace Go.Proofs.YtogfiipmebgnjaaGreatDoor
open Go.RowKit

theorem un_isD {n : Int} {B : Nat} (h : goodN n B) : isD (fN n) (leastN n) (mostN n) (unD n B) := by
  have hF := bin_fm h.1
  obtain ⟨S, E, F, hS, hE, hFr, hB⟩ := fields_in h.2
  have hu : unD n B = mean (fN n) (eN n) (leastN n) S E F := by
    unfold unD; rw [if_pos h, hB, unp_mean _ hS hE hFr]
  rw [hu]
  exact (mean_isD hF hS hE hFr).1
/-- a number that has digits -/
def finP (n : Int) (V : Nat) : Prop := goodN n V ∧ (unD n V).c = 1 ∧ (unD n V).k ≠ 0
theorem fin_facts {n : Int} {V : Nat} (h : finP n V) : binN n ∧ (unD n V).k < 2 ^ 256 ∧ -16990 ≤ (unD n V).x ∧ (unD n V).x ≤ 16990 ∧ isD (fN n) (leastN n) (mostN n) (unD n V) := by
  obtain ⟨h1, h2, h3⟩ := h
  have hb := h1.1
  have hd := un_isD h1
  have hf := (bin_fm hb).f240
  rcases hd with ⟨e1, e2, e3, e4, e5, e6⟩ | ⟨e1, _⟩ | ⟨e1, _⟩
  · have hx := bin_x hb e4 e5
    refine ⟨hb, Nat.lt_of_lt_of_le e3 (Nat.pow_le_pow_right (by decide) (by omega)), hx.1, hx.2, Or.inl ⟨e1, e2, e3, e4, e5, e6⟩⟩
  · omega
  · omega
end Go.Proofs.YtogfiipmebgnjaaGreatDoor

namespace Go.Proofs.YtogfiipmebgnjaaGreatDoor
open Go.RowKit

/-- a number's text, but for its sign -/
theorem itoa_brief {e : Int} (he : -100000 ≤ e ∧ e ≤ 100000) : (Lib.itoa e).length ≤ 21 := by
  have := Lib.itoa_length_le e (by omega) (by omega)
  omega
def unT (D : List UInt8) (e : Int) : List UInt8 := ((D.take 1 ++ if 1 < D.length then [46] ++ D.drop 1 else []) ++ [101]) ++ Lib.itoa e
theorem unT_brief {D : List UInt8} {e : Int} (he : -100000 ≤ e ∧ e ≤ 100000) : (unT D e).length ≤ D.length + 25 := by
  have := itoa_brief he
  unfold unT
  rw [List.length_append, List.length_append, List.length_append, List.length_take]
  split
  · simp; omega
  · simp; omega
theorem itoa_short {e : Int} (he : -100000 ≤ e ∧ e ≤ 100000) : (Lib.itoa e).length ≤ 100 := by
  have := Lib.itoa_length_le e (by omega) (by omega)
  omega
attribute [local irreducible] W4
end Go.Proofs.YtogfiipmebgnjaaGreatDoor

namespace Go.Proofs.YtogfiipmebgnjaaGreatDoor
open Go.RowKit

section
variable (D : List UInt8) (e : Int) (w : World) (hT10 : Tb10 w) (he : -100000 ≤ e ∧ e ≤ 100000)
include hT10 he
set_option maxHeartbeats 4000000 in
theorem ltext_1 (hD : D.length = 1) : Calls Tryz.prog 26 #[.string (B D), .int .i64 e] w fun r w' => r = .returned (.string (B (unT D e))) ∧ Below w.heap.size w w' := by
  have hi := itoa_short he
  have c53 := fun W (h : Tb10 W) => itoa_any e W (by omega) h
  have htl := B_toList
  have hsz : (B D).size = 1 := by rw [B_size, hD]
  have HU : Hid (unT D e = (D ++ [101]) ++ Lib.itoa e) := by
    show _ = _
    unfold unT
    rw [if_neg (by omega), List.append_nil, List.take_of_length_le (by omega)]
  have ht : (B D).extract 0 1 = B D := by rw [B_ext, List.drop_zero, List.take_of_length_le (by omega)]
  have p0 : B D ++ (⟨#[101]⟩ : ByteArray) = B (D ++ [101]) := B_app D [101]
  have z0 : (B (D ++ [101])).size = 2 := by rw [B_size, List.length_append, hD]; rfl
  have p1 : B (D ++ [101]) ++ B (Lib.itoa e) = B ((D ++ [101]) ++ Lib.itoa e) := B_app _ _
  obtain ⟨il, hil⟩ : ∃ il, (Lib.itoa e).length = il := ⟨_, rfl⟩
  have z2 : (B (Lib.itoa e)).size = il := by rw [B_size]; exact hil
  have hil2 : il ≤ 100 := by omega
  have hemp : D.isEmpty = false := by cases D with | nil => exact absurd hD (by decide) | cons y ys => rfl
  clear hD hi hil
  generalize hL0 : D ++ [101] = L0 at *
  clear hL0
  generalize Lib.itoa e = I at *
  generalize hL1 : L0 ++ I = L1 at *
  clear hL1
  go_enter Tryz.func26, Tryz.ntmps26
  go_wp2_with (go_at_call 52; refine (c53 _ (hT10.next bgo)).mono ?_; rintro r w3 ⟨rfl, hb3⟩)
  go_ret
  exact ⟨by rw [HU.out]; rfl, hb3⟩
set_option maxHeartbeats 4000000 in
theorem ltext_m (hD : 1 < D.length) (hD2 : D.length ≤ 4000) : Calls Tryz.prog 26 #[.string (B D), .int .i64 e] w fun r w' => r = .returned (.string (B (unT D e))) ∧ Below w.heap.size w w' := by
  have hi := itoa_short he
  have c53 := fun W (h : Tb10 W) => itoa_any e W (by omega) h
  have htl := B_toList
  obtain ⟨m, hm⟩ : ∃ m, D.length = m + 2 := ⟨D.length - 2, by omega⟩
  have hsz : (B D).size = m + 2 := by rw [B_size, hm]
  have HU : Hid (unT D e = ((D.take 1 ++ ([46] ++ D.drop 1)) ++ [101]) ++ Lib.itoa e) := by
    show _ = _
    unfold unT
    rw [if_pos hD]
  have ht : (B D).extract 0 1 = B (D.take 1) := by rw [B_ext, List.drop_zero]
  have hd : (B D).extract 1 (m + 2) = B (D.drop 1) := by have := B_drop D 1; rw [hsz] at this; exact this
  have hm2 : m ≤ 4000 := by omega
  have q0 : (⟨#[46]⟩ : ByteArray) ++ B (D.drop 1) = B ([46] ++ D.drop 1) := B_app [46] _
  have y0 : (B (D.drop 1)).size = m + 1 := by rw [B_size, List.length_drop, hm]; omega
  have y1 : (B ([46] ++ D.drop 1)).size = m + 2 := by rw [B_size, List.length_append, List.length_drop, hm]; simp; omega
  have y2 : (B (D.take 1)).size = 1 := by rw [B_size, List.length_take, hm]; omega
  have p0 : B (D.take 1) ++ B ([46] ++ D.drop 1) = B (D.take 1 ++ ([46] ++ D.drop 1)) := B_app _ _
  have z0 : (B (D.take 1 ++ ([46] ++ D.drop 1))).size = m + 3 := by rw [B_size] at y1 y2 ⊢; rw [List.length_append, y1, y2]; omega
  have p1 : B (D.take 1 ++ ([46] ++ D.drop 1)) ++ (⟨#[101]⟩ : ByteArray) = B ((D.take 1 ++ ([46] ++ D.drop 1)) ++ [101]) := B_app _ [101]
  have z1 : (B ((D.take 1 ++ ([46] ++ D.drop 1)) ++ [101])).size = m + 4 := by rw [B_size] at z0 ⊢; rw [List.length_append, z0]; rfl
  have p2 : B ((D.take 1 ++ ([46] ++ D.drop 1)) ++ [101]) ++ B (Lib.itoa e) = B (((D.take 1 ++ ([46] ++ D.drop 1)) ++ [101]) ++ Lib.itoa e) := B_app _ _
  obtain ⟨il, hil⟩ : ∃ il, (Lib.itoa e).length = il := ⟨_, rfl⟩
  have z2 : (B (Lib.itoa e)).size = il := by rw [B_size]; exact hil
  have hil2 : il ≤ 100 := by omega
  have hemp : D.isEmpty = false := by cases D with | nil => exact absurd hD (by decide) | cons y ys => rfl
  clear hD hD2 hm hi hil
  generalize Lib.itoa e = I at *
  generalize hL3 : ((D.take 1 ++ ([46] ++ D.drop 1)) ++ [101]) ++ I = L3 at *
  generalize hL2 : (D.take 1 ++ ([46] ++ D.drop 1)) ++ [101] = L2 at *
  generalize hL1 : D.take 1 ++ ([46] ++ D.drop 1) = L1 at *
  generalize hL0 : [46] ++ D.drop 1 = L0 at *
  generalize hA : D.take 1 = A0 at *
  generalize hB : D.drop 1 = B0 at *
  clear hL3 hL2 hL1 hL0 hA hB
  go_enter Tryz.func26, Tryz.ntmps26
  go_wp2_with (go_at_call 52; refine (c53 _ (hT10.next bgo)).mono ?_; rintro r w3 ⟨rfl, hb3⟩)
  go_ret
  exact ⟨by rw [HU.out]; rfl, hb3⟩
end
theorem ltext_v (D : List UInt8) (e : Int) (w : World) (hT10 : Tb10 w) (he : -100000 ≤ e ∧ e ≤ 100000) (hD : 1 ≤ D.length) (hD2 : D.length ≤ 4000) : Calls Tryz.prog 26 #[.string (B D), .int .i64 e] w fun r w' => r = .returned (.string (B (unT D e))) ∧ Below w.heap.size w w' := by
  by_cases h : D.length = 1
  · exact ltext_1 D e w hT10 he h
  · exact ltext_m D e w hT10 he (by omega) hD2
end Go.Proofs.YtogfiipmebgnjaaGreatDoor

namespace Go.Proofs.YtogfiipmebgnjaaGreatDoor
open Go.RowKit

theorem third_un : unD 3 1036831949 = ⟨1, false, false, -27, 13421773⟩ ∧ unE 3 1036831949 = 0 := ⟨by kernel_rfl, by kernel_rfl⟩
theorem A4_third : A4 1036831949 = .agg #[.int .u64 1036831949, .int .u64 0, .int .u64 0, .int .u64 0] := by unfold A4; rw [show W4 1036831949 0 = 1036831949 by decide, show W4 1036831949 1 = 0 by decide, show W4 1036831949 2 = 0 by decide, show W4 1036831949 3 = 0 by decide]
attribute [local irreducible] W4
end Go.Proofs.YtogfiipmebgnjaaGreatDoor
