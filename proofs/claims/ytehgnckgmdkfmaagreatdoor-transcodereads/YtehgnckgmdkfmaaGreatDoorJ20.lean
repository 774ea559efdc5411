/-
  Texts that the proof leans on.
-/
import Derived.Test.YtehgnckgmdkfmaaGreatDoorJ17
import Derived.Test.YtehgnckgmdkfmaaGreatDoorJ11
import Derived.Test.YtehgnckgmdkfmaaGreatDoorJ9
import Derived.Test.YtehgnckgmdkfmaaGreatDoorJ1
import Derived.Test.YtehgnckgmdkfmaaGreatDoorJ14
import Derived.Deep.Cut
import Derived.Deep.CutRange
import Derived.Test.YtehgnckgmdkfmaaGreatDoorJ15
import Derived.Test.YtehgnckgmdkfmaaGreatDoorJ2
import Derived.Test.YtehgnckgmdkfmaaGreatDoorJ10
import Derived.Deep.RegionWith
import Derived.Test.YtehgnckgmdkfmaaGreatDoorJ3
import Derived.Test.YtehgnckgmdkfmaaGreatDoorJ16
import Derived.Deep.MidRow
set_option linter.unusedVariables false
set_option linter.unusedSectionVars false
set_option linter.unusedSimpArgs false
set_option maxRecDepth 20000
namespace Go.Proofs.YtehgnckgmdkfmaaGreatDoor
open Go.RowKit
section
attribute [local irreducible] NT NV
/-- the first digit's place lies within three bits a digit -/
theorem tnG_up {N D : Nat} {E : Int} (hD : 0 < D) (h : tnG N D E) : 3 * E ≤ bl N := by
  rcases Int.lt_or_le E 0 with q | q
  · omega
  · unfold tnG at h
    rw [show (-E).toNat = 0 by omega, Nat.pow_zero, Nat.mul_one] at h
    have h1 : 10 ^ E.toNat ≤ N := Nat.le_trans (Nat.le_mul_of_pos_left _ hD) h
    have h2 : N < 2 ^ bl N := bl_le.1 (Nat.le_refl _)
    have h3 : (8 : Nat) ^ E.toNat ≤ 10 ^ E.toNat := Nat.pow_le_pow_left (by decide) _
    have h4 : (2 : Nat) ^ (3 * E.toNat) < 2 ^ bl N := by
      rw [Nat.pow_mul]
      exact Nat.lt_of_le_of_lt (Nat.le_trans h3 h1) h2
    have := (Nat.pow_lt_pow_iff_right (a := 2) (by decide)).1 h4
    omega
theorem tnG_dn {N D : Nat} {E : Int} (hN : 0 < N) (h : ¬ tnG N D E) : -(bl D : Int) ≤ 3 * E := by
  rcases Int.lt_or_le 0 E with q | q
  · omega
  · unfold tnG at h
    rw [show E.toNat = 0 by omega, Nat.pow_zero, Nat.mul_one] at h
    have h1 : 10 ^ (-E).toNat < D := by
      have : 10 ^ (-E).toNat ≤ N * 10 ^ (-E).toNat := Nat.le_mul_of_pos_left _ hN
      omega
    have h2 : D < 2 ^ bl D := bl_le.1 (Nat.le_refl _)
    have h3 : (8 : Nat) ^ (-E).toNat ≤ 10 ^ (-E).toNat := Nat.pow_le_pow_left (by decide) _
    have h4 : (2 : Nat) ^ (3 * (-E).toNat) < 2 ^ bl D := by
      rw [Nat.pow_mul]
      exact Nat.lt_of_le_of_lt (Nat.le_trans h3 (Nat.le_of_lt h1)) h2
    have := (Nat.pow_lt_pow_iff_right (a := 2) (by decide)).1 h4
    omega
end
theorem tnE_find {N D : Nat} (lo : Int) (h : tnG N D lo) : ∀ k : Nat, ¬ tnG N D (lo + k) → ∃ E, TnE N D E
  | 0, h' => absurd (by simpa using h) h'
  | k + 1, h' => by
    by_cases hk : tnG N D (lo + k)
    · exact ⟨lo + k, hk, by rw [show lo + (k : Int) + 1 = lo + ((k + 1 : Nat) : Int) by omega]; exact h'⟩
    · exact tnE_find lo h k hk
theorem tnE_ex {N D : Nat} (hN : 0 < N) (hD : 0 < D) : ∃ E, TnE N D E := by
  refine tnE_find (-(D : Int)) ?_ (N + D) ?_
  · unfold tnG
    rw [show (-(D : Int)).toNat = 0 by omega, Int.neg_neg, Int.toNat_natCast, Nat.pow_zero, Nat.mul_one]
    have h1 : D < 10 ^ D := Nat.lt_pow_self (by decide)
    exact Nat.le_trans (Nat.le_of_lt h1) (Nat.le_mul_of_pos_left _ hN)
  · rw [show -(D : Int) + ((N + D : Nat) : Int) = (N : Int) by omega]
    unfold tnG
    rw [show (-(N : Int)).toNat = 0 by omega, Int.toNat_natCast, Nat.pow_zero, Nat.mul_one]
    have h1 : N < 10 ^ N := Nat.lt_pow_self (by decide)
    have h2 : 10 ^ N ≤ D * 10 ^ N := Nat.le_mul_of_pos_left _ hD
    omega
/-- the exponent as the document takes it -/
def clT (x : Int) : Int := min (max x (-20000)) 20000
theorem ok_m {f : DF} (h : f.ok) : -10000 ≤ f.m ∧ f.m ≤ 10000 ∧ -10000 ≤ f.l ∧ f.l ≤ 10000 ∧ f.l ≤ f.m ∧ 2 ≤ f.j ∧ f.j ≤ 11 := by
  unfold DF.m
  rcases h with ⟨h1, h2, h3, h4⟩ | ⟨h1, h2, h3, h4⟩ | ⟨h1, h2, h3, h4⟩ <;> rw [h2, h3, h4] <;> decide
/-- the exponent of a fraction's first digit -/
noncomputable def tnX (N D : Nat) : Int := open Classical in if h : ∃ E, TnE N D E then Classical.choose h else 0
theorem tnX_is {N D : Nat} (hN : 0 < N) (hD : 0 < D) : TnE N D (tnX N D) := by
  have h := tnE_ex hN hD
  unfold tnX
  rw [dif_pos h]
  exact Classical.choose_spec h
/-- what decround answers -/
def rqE (n d : Int) (N D : Nat) : Int := if decN n ∧ knB d ∧ D ≠ 0 then (if 25600 < bl N ∨ 25600 < bl D then 4 else 0) else 1
noncomputable def rqD (n d : Int) (s : Bool) (N D : Nat) (x y : Int) : Dat :=
  if rqE n d N D = 0 then (if N = 0 then ⟨1, s, false, min (max y (fD n).l) (fD n).m, 0⟩ else dkD (fD n) d s (N * 10 ^ (clT x).toNat) (D * 10 ^ (-(clT x)).toNat) (tnX (N * 10 ^ (clT x).toNat) (D * 10 ^ (-(clT x)).toNat)) y) else ⟨0, false, false, 0, 0⟩
noncomputable def rqF (n d : Int) (s : Bool) (N D : Nat) (x : Int) : Int :=
  if rqE n d N D = 0 then (if N = 0 then 0 else dkF (fD n) d s (N * 10 ^ (clT x).toNat) (D * 10 ^ (-(clT x)).toNat) (tnX (N * 10 ^ (clT x).toNat) (D * 10 ^ (-(clT x)).toNat))) else 0
theorem rq_zero {n d : Int} {N D : Nat} (h : rqE n d N D = 0) : decN n ∧ knB d ∧ D ≠ 0 ∧ bl N ≤ 25600 ∧ bl D ≤ 25600 := by
  unfold rqE at h
  split at h
  · rename_i h1
    split at h
    · omega
    · rename_i h2
      exact ⟨h1.1, h1.2.1, h1.2.2, by omega, by omega⟩
  · omega
theorem rq_not {n d : Int} {s : Bool} {N D : Nat} {x y : Int} (h : rqE n d N D ≠ 0) : (rqD n d s N D x y).v = .agg #[.int .i64 0, .bool false, .bool false, .int .i64 0, .int .u64 0, .int .u64 0, .int .u64 0, .int .u64 0] ∧ rqF n d s N D x = 0 := by
  unfold rqD rqF
  rw [if_neg h, if_neg h]
  refine ⟨?_, rfl⟩
  unfold Dat.v DV
  simp only [W4_zero]
section
/-- Unpack's answer -/
def vUD (n : Int) (B : Nat) : Dat := if goodD n B then vM (fD n) B else ⟨0, false, false, 0, 0⟩
def vUC (n : Int) (B : Nat) : Bool := decide (goodD n B ∧ vP (fD n) (vM (fD n) B) = B)
def vUE (n : Int) (B : Nat) : Int := if goodD n B then 0 else 1
theorem vUD_256 (n : Int) (B : Nat) : (vUD n B).k < 2 ^ 256 := by
  unfold vUD
  split
  · exact vM_256 (fD_ok n) B
  · decide
theorem eq_words {X Y : Nat} (hX : X < 2 ^ 256) (hY : Y < 2 ^ 256) : decide (W4 X 0 = W4 Y 0 ∧ W4 X 1 = W4 Y 1 ∧ W4 X 2 = W4 Y 2 ∧ W4 X 3 = W4 Y 3) = decide (X = Y) := by
  refine decide_eq_decide.2 ⟨fun ⟨h0, h1, h2, h3⟩ => A4_inj hX hY fun i hi => ?_, fun h => by rw [h]; exact ⟨rfl, rfl, rfl, rfl⟩⟩
  have : i = 0 ∨ i = 1 ∨ i = 2 ∨ i = 3 := by omega
  rcases this with rfl | rfl | rfl | rfl
  · exact h0
  · exact h1
  · exact h2
  · exact h3
attribute [local irreducible] W4
theorem zero_v : (Dat.mk 0 false false 0 0).v = .agg #[.int .i64 0, .bool false, .bool false, .int .i64 0, .int .u64 0, .int .u64 0, .int .u64 0, .int .u64 0] := by unfold Dat.v DV; simp only [W4_zero]
end
section
theorem tnX_eq {N D : Nat} {E : Int} (hN : 0 < N) (hD : 0 < D) (h : TnE N D E) : tnX N D = E := (tnX_is hN hD).only h
theorem third : rqD 7 0 false 1 3 0 0 = ⟨1, false, false, -7, 3333333⟩ ∧ rqF 7 0 false 1 3 0 = 8 ∧ rqE 7 0 1 3 = 0 := by
  have e0 : rqE 7 0 1 3 = 0 := by
    have b1 : bl 1 ≤ 2 := bl_le.2 (by decide)
    have b3 : bl 3 ≤ 2 := bl_le.2 (by decide)
    unfold rqE
    rw [if_pos ⟨by unfold decN; omega, by unfold knB; omega, by decide⟩, if_neg (by omega)]
  have eX : tnX (1 * 10 ^ (clT 0).toNat) (3 * 10 ^ (-(clT 0)).toNat) = -1 := tnX_eq (by decide) (by decide) ⟨by decide, by decide⟩
  refine ⟨?_, ?_, e0⟩
  · unfold rqD
    rw [if_pos e0, if_neg (by decide), eX]
    have h1 : (dkD (fD 7) 0 false (1 * 10 ^ (clT 0).toNat) (3 * 10 ^ (-(clT 0)).toNat) (-1) 0).c = 1 ∧ (dkD (fD 7) 0 false (1 * 10 ^ (clT 0).toNat) (3 * 10 ^ (-(clT 0)).toNat) (-1) 0).s = false ∧ (dkD (fD 7) 0 false (1 * 10 ^ (clT 0).toNat) (3 * 10 ^ (-(clT 0)).toNat) (-1) 0).g = false ∧ (dkD (fD 7) 0 false (1 * 10 ^ (clT 0).toNat) (3 * 10 ^ (-(clT 0)).toNat) (-1) 0).x = -7 ∧ (dkD (fD 7) 0 false (1 * 10 ^ (clT 0).toNat) (3 * 10 ^ (-(clT 0)).toNat) (-1) 0).k = 3333333 := by decide +kernel
    generalize dkD (fD 7) 0 false (1 * 10 ^ (clT 0).toNat) (3 * 10 ^ (-(clT 0)).toNat) (-1) 0 = R at h1 ⊢
    obtain ⟨c, s, g, x, k⟩ := R
    simp only at h1
    obtain ⟨rfl, rfl, rfl, rfl, rfl⟩ := h1
    rfl
  · unfold rqF
    rw [if_pos e0, if_neg (by decide), eX]
    decide +kernel
attribute [local irreducible] W4 Nt
end
section
attribute [local irreducible] W4 Nz Nt NT
/-- is the next number below nearer than the next one above -/
def nbB (n x : Int) (k : Nat) : Bool := decide (leastN n < x) && decide (k = 2 ^ fN n)
end
section
/-- all but block g is as it was, but for what is new -/
structure Mut (g : Nat) (w w' : World) : Prop where
  os : w'.os = w.os
  tape : w'.tape = w.tape
  output : w'.output = w.output
  size : w.heap.size ≤ w'.heap.size
  block : ∀ k, k < w.heap.size → k ≠ g → w'.heap[k]? = w.heap[k]?
theorem Mut.refl (g : Nat) (w : World) : Mut g w w := ⟨rfl, rfl, rfl, Nat.le_refl _, fun _ _ _ => rfl⟩
theorem Mut.trans {g : Nat} {a b c : World} (h : Mut g a b) (k : Mut g b c) : Mut g a c :=
  ⟨k.os.trans h.os, k.tape.trans h.tape, k.output.trans h.output, Nat.le_trans h.size k.size, fun i hi hg => (k.block i (Nat.lt_of_lt_of_le hi h.size) hg).trans (h.block i hi hg)⟩
theorem Mut.below {g : Nat} {a b : World} (h : Below a.heap.size a b) : Mut g a b := ⟨h.os, h.tape, h.output, h.size, fun k hk _ => h.block k hk⟩
theorem Mut.set {g : Nat} {a b : World} (h : Mut g a b) (i : Nat) (v : Value) : Mut g a (b.setCell ⟨g, i, none⟩ v) :=
  h.trans ⟨rfl, rfl, rfl, by simp [World.setCell], fun k _ hk => Below.heap_setCell _ _ _ _ hk⟩
theorem Mut.out {g B : Nat} {w0 w w' : World} (h : Mut g w w') (h0 : Below B w0 w) (hB : B ≤ g) (hs : B ≤ w0.heap.size) : Below B w0 w' :=
  h0.trans ⟨h.os, h.tape, h.output, h.size, fun k hk => h.block k (by have := h0.size; omega) (by omega)⟩
attribute [local irreducible] W4 Nz Nt NT
end
section
theorem tn_ex {k : Nat} {x : Int} : ∀ (d : Nat) (g0 : Int), tnP k x g0 → ¬ tnP k x (g0 + d) → ∃ E, g0 ≤ E ∧ E < g0 + d ∧ tnP k x E ∧ ¬ tnP k x (E + 1)
  | 0, g0, h0, h1 => absurd h0 (by simpa using h1)
  | d + 1, g0, h0, h1 => by
    by_cases h : tnP k x (g0 + 1)
    · obtain ⟨E, e1, e2, e3, e4⟩ := tn_ex d (g0 + 1) h (by rw [show g0 + 1 + (d : Int) = g0 + ((d + 1 : Nat) : Int) by omega]; exact h1)
      exact ⟨E, by omega, by omega, e3, e4⟩
    · exact ⟨g0, Int.le_refl _, by omega, h0, h⟩
theorem tn_top {k : Nat} {x : Int} (hk : k < 2 ^ 256) (hx : x ≤ 17000) : ¬ tnP k x 6000 := by
  unfold tnP zE oE
  rw [show ((-6000 : Int)).toNat = 0 by decide, Nat.pow_zero, Nat.mul_one, show ((6000 : Int)).toNat = 6000 by decide]
  have h1 : (2 : Nat) ^ 18000 ≤ 10 ^ 6000 := by decide +kernel
  obtain ⟨m', hm'⟩ : ∃ m' : Nat, m' = 18000 := ⟨_, rfl⟩
  rw [← hm'] at h1
  generalize (10 : Nat) ^ 6000 = T at *
  obtain ⟨m, hm⟩ : ∃ m : Nat, m = 17000 := ⟨_, rfl⟩
  have h2 : k * 2 ^ x.toNat < 2 ^ 256 * 2 ^ m := by
    have a1 : k * 2 ^ x.toNat < 2 ^ 256 * 2 ^ x.toNat := Nat.mul_lt_mul_of_pos_right hk (Nat.two_pow_pos _)
    have a2 : 2 ^ 256 * 2 ^ x.toNat ≤ 2 ^ 256 * 2 ^ m := Nat.mul_le_mul_left _ (Nat.pow_le_pow_right (by decide) (by omega))
    exact Nat.lt_of_lt_of_le a1 a2
  rw [← Nat.pow_add] at h2
  have h3 : (2 : Nat) ^ (256 + m) ≤ 2 ^ m' := Nat.pow_le_pow_right (by decide) (by omega)
  have h4 : 1 * T ≤ 2 ^ (-x).toNat * T := Nat.mul_le_mul_right _ (Nat.two_pow_pos _)
  generalize (2 : Nat) ^ (256 + m) = Y at *
  generalize (2 : Nat) ^ m' = Y' at *
  rw [Nat.mul_assoc 4, Nat.mul_assoc 4]
  generalize 2 ^ (-x).toNat * T = Z1 at *
  generalize k * 2 ^ x.toNat = Z2 at *
  omega
attribute [local irreducible] W4 Nz Nt NT
end
section
theorem NT.grown {K V Bs : Nat} {v tv : Value} {l : List UInt8} {w w' : World} (h : NT K V v w) (ho : w.ownsRow Bs 5 1 tv l.length (Lib.byteCells l)) (hl : tv = .slice none 0 0 ∨ 0 < l.length) (hg : w.grownBy w' tv.ownBlock) : NT K V v w' := by
  obtain ⟨b, k, cap, z, h1, h2, ⟨n1, n2, n3, n4, n5⟩, h4, h5⟩ := h
  refine ⟨b, k, cap, z, h1, h2, ⟨n1, n2, n3, n4, ?_⟩, h4, h5⟩
  rcases n5 with n5 | ⟨b', off, e, hb, hc⟩
  · exact Or.inl n5
  · cases e
    refine Or.inr ⟨b, 0, rfl, Nat.lt_of_lt_of_le hb hg.size, fun i hi => ?_⟩
    have hne : some b ≠ tv.ownBlock := by
      rcases hl with rfl | hl
      · intro h; cases h
      · obtain ⟨g', cap', rfl, _, _⟩ := ho.form hl
        intro h
        have : b = g' := Option.some.inj h
        subst this
        have h6 := hc 0 (by omega)
        rw [Nat.add_zero, ho.cellAt 0 (by omega)] at h6
        simp [Lib.byteCells, hl] at h6
    exact (World.cell?_of_block (w := w) (a := ⟨b, 0 + i, none⟩) (hg.block b hb hne)).trans (hc i hi)
attribute [local irreducible] W4 Nz Nt NT
end
/-- how many quarters below a number are read as it -/
def lwN (n x : Int) (k : Nat) : Nat := if nbB n x k then 1 else 2
def evK (k : Nat) : Bool := decide (k % 2 = 0)
/-- the first digit's place, and how many digits behind it -/
structure Shd (n x : Int) (k : Nat) (E : Int) (K : Nat) : Prop where
  t0 : tnP k x E
  t1 : ¬ tnP k x (E + 1)
  st : stK (evK k) (4 * k * oE x E) (lwN n x k * oE x E) (2 * oE x E) (zE x E) K = true
  mn : ∀ j, j < K → stK (evK k) (4 * k * oE x E) (lwN n x k * oE x E) (2 * oE x E) (zE x E) j = false
theorem gs_in {k : Nat} {x : Int} (hk : k < 2 ^ 256) (hk0 : k ≠ 0) (hx : -16990 ≤ x ∧ x ≤ 16990) : tnP k x (gsP k x) ∧ -6000 ≤ gsP k x ∧ gsP k x < 6000 := by
  have hb : bl k ≤ 256 := bl_le.2 hk
  obtain ⟨b1, b2, b3⟩ := bl_bd hk0
  have e : ((bl k - 1 : Nat) : Int) = (bl k : Int) - 1 := by omega
  have := guess_ok (c := k) (L := bl k - 1) (x := x) b1 (by omega)
  rw [e] at this
  refine ⟨this, ?_⟩
  unfold gsP
  by_cases h0 : 0 ≤ (bl k : Int) - 1 + x
  · rw [Int.tdiv_eq_ediv_of_nonneg (by omega)]; omega
  · rw [show ((bl k : Int) - 1 + x) * 30103 = -(-((bl k : Int) - 1 + x) * 30103) by omega, Int.neg_tdiv, Int.tdiv_eq_ediv_of_nonneg (by omega)]; omega
theorem Shd.ex {n x : Int} {k : Nat} (hk : k < 2 ^ 256) (hk0 : k ≠ 0) (hx : -16990 ≤ x ∧ x ≤ 16990) : ∃ E K, Shd n x k E K := by
  obtain ⟨g1, g2, g3⟩ := gs_in hk hk0 hx
  obtain ⟨E, e1, e2, e3, e4⟩ := tn_ex (6000 - gsP k x).toNat (gsP k x) g1 (by rw [show gsP k x + ((6000 - gsP k x).toNat : Int) = 6000 by omega]; exact tn_top hk (by omega))
  have hl : 0 < lwN n x k * oE x E := Nat.mul_pos (by unfold lwN; split <;> decide) (oE_pos _ _)
  obtain ⟨K, h1, h2⟩ := st_ex (c := evK k) (R := 4 * k * oE x E) (u := 2 * oE x E) (zE_pos x E) hl
  exact ⟨E, K, e3, e4, h1, h2⟩
section
theorem W4_none {k : Nat} (hk : k < 2 ^ 256) : decide (W4 k 0 = 0 ∧ W4 k 1 = 0 ∧ W4 k 2 = 0 ∧ W4 k 3 = 0) = decide (k = 0) := by
  by_cases h : k = 0
  · subst h
    rw [decide_eq_true (by simp [W4_zero]), decide_eq_true rfl]
  · rw [decide_eq_false h, decide_eq_false]
    rintro ⟨h0, h1, h2, h3⟩
    refine h (A4_inj hk (by decide) fun i hi => ?_)
    have : i = 0 ∨ i = 1 ∨ i = 2 ∨ i = 3 := by omega
    rcases this with rfl | rfl | rfl | rfl
    · rw [h0, W4_zero]
    · rw [h1, W4_zero]
    · rw [h2, W4_zero]
    · rw [h3, W4_zero]
attribute [local irreducible] W4
end
/-- a number without noughts ahead -/
theorem dV_ge {l : List UInt8} (hd : l.all dg = true) (h0 : by_ l 0 ≠ 48) (hl : l ≠ []) : 10 ^ (l.length - 1) ≤ dV l := by
  cases l with
  | nil => exact absurd rfl hl
  | cons c r =>
    have hr : r.all dg = true := by rw [List.all_cons] at hd; simp at hd; simpa using hd.2
    have hc : dg c = true := by rw [List.all_cons] at hd; simp at hd; exact hd.1
    unfold dg at hc
    have hc' := of_decide_eq_true hc
    rw [by_zero] at h0
    have h := numV_app (s := B (c :: r)) (u := B r) 1 (B r).size (fun i hi => by rw [sb_by, sb_by, Nat.add_comm, by_succ])
    have hs : (B (c :: r)).size = 1 + (B r).size := by rw [B_size, B_size, List.length_cons]; omega
    have h1 : numV (B (c :: r)) 1 = (c.toNat : Int) - 48 := by
      have : numV (B (c :: r)) 1 = numV (B (c :: r)) 0 * 10 + (sb (B (c :: r)) 0 - 48) := rfl
      rw [this, sb_by, by_zero]
      have : numV (B (c :: r)) 0 = 0 := rfl
      omega
    have hb := (numV_bd _ (dig_B hr)).1
    have e := (dV_lt hd).2
    rw [hs, h, h1] at e
    rw [B_size] at e hb
    have hp : ((10 : Int) ^ r.length) = ((10 ^ r.length : Nat) : Int) := by simp
    rw [hp] at e
    show 10 ^ (r.length + 1 - 1) ≤ _
    rw [Nat.add_sub_cancel]
    have hm : 1 * ((10 ^ r.length : Nat) : Int) ≤ ((c.toNat : Int) - 48) * ((10 ^ r.length : Nat) : Int) := Int.mul_le_mul_of_nonneg_right (by omega) (Int.natCast_nonneg _)
    omega
theorem dV_nil : dV [] = 0 := rfl
theorem tex_len2 {c : Int} {s g : Bool} {d : List UInt8} {e : Int} (he : -9223372036854775808 ≤ e ∧ e ≤ 9223372036854775807) : (texT c s g d e).length ≤ d.length + 100 := by
  have hi := Lib.itoa_length_le e he.1 he.2
  have h1 : (bodT c g d e).length ≤ d.length + 50 := by
    unfold bodT
    split
    · simp
    · split
      · unfold nanT
        simp only [List.length_append, List.length_cons]
        split <;> split <;> simp <;> omega
      · unfold finT dgT exT
        simp only [List.length_append]
        split <;> split <;> simp <;> omega
  unfold texT
  rw [List.length_append]
  split <;> simp <;> omega
/-- the parts with this sign -/
def Prt.at (p : Prt) (s : Bool) : Prt := ⟨p.cls, s, p.sn, p.dig, p.ex⟩
/-! Make by value -/
/-! Read by value -/
theorem decL_rev {V : Int} {L : Nat} (h0 : 0 < V) (h : V < 10 ^ L) : revL V (sizeL (dgt V) L) = decL V L := by
  unfold decL revL
  rw [if_neg]
  intro e
  have := lt_sizeL (Int.le_of_lt h0) L h
  rw [e] at this; simp at this; omega
theorem sb_nums {l : List Int} (hl : ∀ v ∈ l, 48 ≤ v ∧ v ≤ 57) {i : Nat} (hi : i < l.length) : sb (strOfNums l) i = l[i] := by
  unfold sb
  rw [dif_pos (by rw [strOfNums_size]; exact hi)]
  have h := hl l[i] (List.getElem_mem hi)
  have e : (strOfNums l)[i]'(by rw [strOfNums_size]; exact hi) = UInt8.ofNat l[i].toNat := by
    show (strOfNums l).data[i]'_ = _
    simp [strOfNums]
  rw [e]
  simp
  omega
theorem numV_rev {V : Int} {K : Nat} {u : ByteArray} (hu : ∀ i, i < K → sb u i = 48 + dgt V (K - 1 - i)) (h0 : 0 ≤ V) (hV : V < 10 ^ K) : ∀ j, j ≤ K → numV u j = V / 10 ^ (K - j)
  | 0, _ => by rw [Nat.sub_zero, Int.ediv_eq_zero_of_lt h0 hV]; rfl
  | j + 1, h => by
    have ih := numV_rev hu h0 hV j (by omega)
    simp only [numV]
    rw [ih, hu j (by omega)]
    have e1 : K - j = (K - (j + 1)) + 1 := by omega
    have e2 : K - 1 - j = K - (j + 1) := by omega
    rw [e1, e2]
    unfold dgt
    rw [← div_div10]
    generalize V / 10 ^ (K - (j + 1)) = W
    omega
/-- the digits of a number -/
def dcD (V : Int) (L : Nat) : List UInt8 := (strOfNums (revL V (sizeL (dgt V) L))).data.toList
theorem dcD_facts {V : Int} {L : Nat} (h0 : 0 < V) (h : V < 10 ^ L) : gdD (dcD V L) ∧ (dV (dcD V L) : Int) = V ∧ (dcD V L).length ≤ L := by
  have hK := lt_sizeL (Int.le_of_lt h0) L h
  have hKp : 0 < sizeL (dgt V) L := by
    rcases Nat.eq_zero_or_pos (sizeL (dgt V) L) with e | e
    · rw [e] at hK; simp at hK; omega
    · exact e
  have hKL := sizeL_le (dgt V) L
  have htop := sizeL_top L hKp
  have hB : B (dcD V L) = strOfNums (revL V (sizeL (dgt V) L)) := B_of _
  have hd : ∀ v ∈ revL V (sizeL (dgt V) L), 48 ≤ v ∧ v ≤ 57 := by
    intro v hv
    simp [revL] at hv
    obtain ⟨i, _, rfl⟩ := hv
    have := dgt_bd V (sizeL (dgt V) L - 1 - i)
    omega
  have hrl : (revL V (sizeL (dgt V) L)).length = sizeL (dgt V) L := by simp [revL]
  have hsz : (dcD V L).length = sizeL (dgt V) L := by
    rw [← B_size, hB, strOfNums_size, hrl]
  have hby : ∀ i, i < sizeL (dgt V) L → by_ (dcD V L) i = 48 + dgt V (sizeL (dgt V) L - 1 - i) := fun i hi => by
    rw [← sb_by, hB, sb_nums hd (by rw [hrl]; exact hi)]; simp [revL]
  have hall : (dcD V L).all dg = true := (all_dg _).2 fun i hi => by
    rw [hsz] at hi
    rw [hby i hi]
    have := dgt_bd V (sizeL (dgt V) L - 1 - i)
    omega
  refine ⟨Or.inr ⟨?_, ?_⟩, ?_, by omega⟩
  · unfold isd
    rw [hall]
    have : dcD V L ≠ [] := fun e => by rw [e] at hsz; simp at hsz; omega
    simp [this]
  · rw [hby 0 hKp, Nat.sub_zero]
    intro e
    exact htop (by omega)
  · rw [(dV_lt hall).2, B_size, hsz]
    rw [numV_rev (K := sizeL (dgt V) L) (fun i hi => by rw [sb_by]; exact hby i hi) (Int.le_of_lt h0) hK _ (Nat.le_refl _)]
    simp
section
theorem NT.head {K V : Nat} {v : Value} {w : World} (h : NT K V v w) (hV : V ≠ 0) : ∃ g k cap z0, v = .slice (some ⟨g, 0, none⟩) k cap ∧ 0 < k ∧ k ≤ K ∧ g < w.heap.size ∧ w.cell? ⟨g, 0, none⟩ = some (.int .u64 z0) ∧ 0 ≤ z0 ∧ z0 ≤ 18446744073709551615 ∧ z0 % 2 = ((V % 2 : Nat) : Int) := by
  have hz := h.zero
  obtain ⟨g, k, cap, z, rfl, hk, ⟨n1, n2, n3, n4, n5⟩, hv, hs⟩ := h
  obtain ⟨g', k', cap', e, _, hz'⟩ := hz
  cases e
  have hk0 : k ≠ 0 := fun e => hV (hz'.1 e)
  rcases n5 with ⟨n5, _⟩ | ⟨b, off, e, hb, hc⟩
  · cases n5
  · cases e
    have hc0 := hc 0 (by omega)
    have hw := n3 0
    have hp := val_odd (by omega : 0 < k) hv
    exact ⟨g, k, cap, z 0, rfl, by omega, hk, hb, hc0, hw.1, hw.2, by omega⟩
attribute [local irreducible] W4 Nz Nt NT NV
end
section
/-- a number's text, but for its sign -/
theorem itoa_brief {e : Int} (he : -100000 ≤ e ∧ e ≤ 100000) : (Lib.itoa e).length ≤ 21 := by
  have := Lib.itoa_length_le e (by omega) (by omega)
  omega
def unT (D : List UInt8) (e : Int) : List UInt8 := ((D.take 1 ++ if 1 < D.length then [46] ++ D.drop 1 else []) ++ [101]) ++ Lib.itoa e
theorem unT_brief {D : List UInt8} {e : Int} (he : -100000 ≤ e ∧ e ≤ 100000) : (unT D e).length ≤ D.length + 25 := by
  have := itoa_brief he
  unfold unT
  rw [List.length_append, List.length_append, List.length_append, List.length_take]
  split
  · simp; omega
  · simp; omega
theorem itoa_short {e : Int} (he : -100000 ≤ e ∧ e ≤ 100000) : (Lib.itoa e).length ≤ 100 := by
  have := Lib.itoa_length_le e (by omega) (by omega)
  omega
attribute [local irreducible] W4
end
section
section
variable (D : List UInt8) (e : Int) (w : World) (hT10 : Tb10 w) (he : -100000 ≤ e ∧ e ≤ 100000)
include hT10 he
set_option maxHeartbeats 4000000 in
theorem ltext_1 (hD : D.length = 1) : Calls Tryz.prog 17 #[.string (B D), .int .i64 e] w fun r w' => r = .returned (.string (B (unT D e))) ∧ Below w.heap.size w w' := by
  have hi := itoa_short he
  have c53 := fun W (h : Tb10 W) => itoa_any e W (by omega) h
  have htl := B_toList
  have hsz : (B D).size = 1 := by rw [B_size, hD]
  have HU : Hid (unT D e = (D ++ [101]) ++ Lib.itoa e) := by
    show _ = _
    unfold unT
    rw [if_neg (by omega), List.append_nil, List.take_of_length_le (by omega)]
  have ht : (B D).extract 0 1 = B D := by rw [B_ext, List.drop_zero, List.take_of_length_le (by omega)]
  have p0 : B D ++ (⟨#[101]⟩ : ByteArray) = B (D ++ [101]) := B_app D [101]
  have z0 : (B (D ++ [101])).size = 2 := by rw [B_size, List.length_append, hD]; rfl
  have p1 : B (D ++ [101]) ++ B (Lib.itoa e) = B ((D ++ [101]) ++ Lib.itoa e) := B_app _ _
  obtain ⟨il, hil⟩ : ∃ il, (Lib.itoa e).length = il := ⟨_, rfl⟩
  have z2 : (B (Lib.itoa e)).size = il := by rw [B_size]; exact hil
  have hil2 : il ≤ 100 := by omega
  have hemp : D.isEmpty = false := by cases D with | nil => exact absurd hD (by decide) | cons y ys => rfl
  clear hD hi hil
  generalize hL0 : D ++ [101] = L0 at *
  clear hL0
  generalize Lib.itoa e = I at *
  generalize hL1 : L0 ++ I = L1 at *
  clear hL1
  go_enter Tryz.func17, Tryz.ntmps17
  go_wp2_with (go_at_call 33; refine (c53 _ (hT10.next bgo)).mono ?_; rintro r w3 ⟨rfl, hb3⟩)
  go_ret
  exact ⟨by rw [HU.out]; rfl, hb3⟩
set_option maxHeartbeats 4000000 in
theorem ltext_m (hD : 1 < D.length) (hD2 : D.length ≤ 4000) : Calls Tryz.prog 17 #[.string (B D), .int .i64 e] w fun r w' => r = .returned (.string (B (unT D e))) ∧ Below w.heap.size w w' := by
  have hi := itoa_short he
  have c53 := fun W (h : Tb10 W) => itoa_any e W (by omega) h
  have htl := B_toList
  obtain ⟨m, hm⟩ : ∃ m, D.length = m + 2 := ⟨D.length - 2, by omega⟩
  have hsz : (B D).size = m + 2 := by rw [B_size, hm]
  have HU : Hid (unT D e = ((D.take 1 ++ ([46] ++ D.drop 1)) ++ [101]) ++ Lib.itoa e) := by
    show _ = _
    unfold unT
    rw [if_pos hD]
  have ht : (B D).extract 0 1 = B (D.take 1) := by rw [B_ext, List.drop_zero]
  have hd : (B D).extract 1 (m + 2) = B (D.drop 1) := by have := B_drop D 1; rw [hsz] at this; exact this
  have hm2 : m ≤ 4000 := by omega
  have q0 : (⟨#[46]⟩ : ByteArray) ++ B (D.drop 1) = B ([46] ++ D.drop 1) := B_app [46] _
  have y0 : (B (D.drop 1)).size = m + 1 := by rw [B_size, List.length_drop, hm]; omega
  have y1 : (B ([46] ++ D.drop 1)).size = m + 2 := by rw [B_size, List.length_append, List.length_drop, hm]; simp; omega
  have y2 : (B (D.take 1)).size = 1 := by rw [B_size, List.length_take, hm]; omega
  have p0 : B (D.take 1) ++ B ([46] ++ D.drop 1) = B (D.take 1 ++ ([46] ++ D.drop 1)) := B_app _ _
  have z0 : (B (D.take 1 ++ ([46] ++ D.drop 1))).size = m + 3 := by rw [B_size] at y1 y2 ⊢; rw [List.length_append, y1, y2]; omega
  have p1 : B (D.take 1 ++ ([46] ++ D.drop 1)) ++ (⟨#[101]⟩ : ByteArray) = B ((D.take 1 ++ ([46] ++ D.drop 1)) ++ [101]) := B_app _ [101]
  have z1 : (B ((D.take 1 ++ ([46] ++ D.drop 1)) ++ [101])).size = m + 4 := by rw [B_size] at z0 ⊢; rw [List.length_append, z0]; rfl
  have p2 : B ((D.take 1 ++ ([46] ++ D.drop 1)) ++ [101]) ++ B (Lib.itoa e) = B (((D.take 1 ++ ([46] ++ D.drop 1)) ++ [101]) ++ Lib.itoa e) := B_app _ _
  obtain ⟨il, hil⟩ : ∃ il, (Lib.itoa e).length = il := ⟨_, rfl⟩
  have z2 : (B (Lib.itoa e)).size = il := by rw [B_size]; exact hil
  have hil2 : il ≤ 100 := by omega
  have hemp : D.isEmpty = false := by cases D with | nil => exact absurd hD (by decide) | cons y ys => rfl
  clear hD hD2 hm hi hil
  generalize Lib.itoa e = I at *
  generalize hL3 : ((D.take 1 ++ ([46] ++ D.drop 1)) ++ [101]) ++ I = L3 at *
  generalize hL2 : (D.take 1 ++ ([46] ++ D.drop 1)) ++ [101] = L2 at *
  generalize hL1 : D.take 1 ++ ([46] ++ D.drop 1) = L1 at *
  generalize hL0 : [46] ++ D.drop 1 = L0 at *
  generalize hA : D.take 1 = A0 at *
  generalize hB : D.drop 1 = B0 at *
  clear hL3 hL2 hL1 hL0 hA hB
  go_enter Tryz.func17, Tryz.ntmps17
  go_wp2_with (go_at_call 33; refine (c53 _ (hT10.next bgo)).mono ?_; rintro r w3 ⟨rfl, hb3⟩)
  go_ret
  exact ⟨by rw [HU.out]; rfl, hb3⟩
end
theorem ltext_v (D : List UInt8) (e : Int) (w : World) (hT10 : Tb10 w) (he : -100000 ≤ e ∧ e ≤ 100000) (hD : 1 ≤ D.length) (hD2 : D.length ≤ 4000) : Calls Tryz.prog 17 #[.string (B D), .int .i64 e] w fun r w' => r = .returned (.string (B (unT D e))) ∧ Below w.heap.size w w' := by
  by_cases h : D.length = 1
  · exact ltext_1 D e w hT10 he h
  · exact ltext_m D e w hT10 he (by omega) hD2
end
section
def sgL (s : Bool) : List UInt8 := if s then [45] else []
attribute [local irreducible] W4
end
section
/-- a payload's digits -/
def dcL (k : Nat) : List UInt8 := if k = 0 then [] else dcD (k : Int) 660
theorem k660 {k : Nat} (hk : k < 2 ^ 256) : (k : Int) < 10 ^ 660 := by
  have h : (2 : Nat) ^ 256 ≤ 10 ^ 100 := by decide
  have h2 : (10 : Int) ^ 100 ≤ 10 ^ 660 := by decide +kernel
  have h3 : ((10 ^ 100 : Nat) : Int) = (10 : Int) ^ 100 := by decide
  omega
theorem dcL_facts {k : Nat} (hk : k < 2 ^ 256) : gdD (dcL k) ∧ dV (dcL k) = k ∧ (dcL k).length ≤ 660 := by
  unfold dcL
  by_cases h : k = 0
  · rw [if_pos h]; exact ⟨Or.inl rfl, by rw [h, dV_nil], by decide⟩
  · rw [if_neg h]
    obtain ⟨h1, h2, h3⟩ := dcD_facts (V := (k : Int)) (L := 660) (by omega) (k660 hk)
    exact ⟨h1, by omega, h3⟩
theorem ndig_v {K k : Nat} {v : Value} {w : World} (hK : K ≤ 1000) (hk : k < 2 ^ 256) (hk0 : k ≠ 0) (h : Nt K k v w) : Calls Tryz.prog 16 #[v] w fun r w' => r = .returned (.tuple #[.string (B (dcL k)), .int .i64 0]) ∧ Below w.heap.size w w' := by
  obtain ⟨a, n, c, z, rfl, hn, hN, hz⟩ := h
  have hle := sizeL_le z n
  refine (ndigits_any a n c z w (by omega) hN (by omega)).mono fun r w' ⟨L, hL, he, hB⟩ => ⟨?_, hB⟩
  rw [he, hz] at *
  have h0 : (0 : Int) < k := by omega
  have h660 := k660 hk
  rw [decL_more (Int.le_of_lt h0) hL h660, ← decL_rev h0 h660]
  unfold dcL
  rw [if_neg hk0]
  unfold dcD
  rw [B_of]
attribute [local irreducible] W4 Nt
end
/-- an exponent that is always written -/
theorem ex_any (e : Int) (h : -1000000000 ≤ e ∧ e ≤ 1000000000) : exB (101 :: Lib.itoa e) = true ∧ exI (101 :: Lib.itoa e) = e ∧ Lib.hasPrefix (101 :: Lib.itoa e) [46] = false ∧ dgs (101 :: Lib.itoa e) = [] ∧ rst (101 :: Lib.itoa e) = 101 :: Lib.itoa e := by
  by_cases h0 : e = 0
  · subst h0
    have e0 : Lib.itoa 0 = [48] := by kernel_rfl
    rw [e0]
    exact ⟨by decide, by decide, by decide, by decide, by decide⟩
  · have := exT_cut e h
    unfold exT at this
    rw [if_neg h0] at this
    exact this
theorem clamp_id {e : Int} (h : -1000000000 ≤ e ∧ e ≤ 1000000000) : clampE e = e := by unfold clampE; omega
/-- the text of digits with an exponent -/
theorem un_cut (s : Bool) {c : UInt8} {r : List UInt8} {e : Int} (hc : dg c = true) (hc0 : (c.toNat : Int) ≠ 48) (hr : r.all dg = true) (hl : r.length ≤ 3950) (he : -100000 ≤ e ∧ e ≤ 100000) :
    cutP (sgL s ++ unT (c :: r) e) = some ⟨1, s, false, c :: r, e - r.length⟩ := by
  have hlen : (unT (c :: r) e).length ≤ r.length + 26 := by have := unT_brief (D := c :: r) he; rw [List.length_cons] at this; omega
  obtain ⟨x1, x2, x3, x4, x5⟩ := ex_any e (by omega)
  have hcn := dg_nat hc
  have hall : [c].all dg = true := by simp [hc]
  have hbar : bar (c :: r) = c :: r := by rw [bar_cons, if_neg hc0]
  have key : finB (unT (c :: r) e) = true ∧ finD (unT (c :: r) e) = c :: r ∧ finE (unT (c :: r) e) = e - r.length ∧ ∃ t, unT (c :: r) e = c :: t := by
    cases hr0 : r with
    | nil =>
      have hu : unT [c] e = [c] ++ (101 :: Lib.itoa e) := rfl
      rw [hu]
      obtain ⟨d1, d2⟩ := dgs_app2 (m := 101 :: Lib.itoa e) hall x4
      have f1 : frac ([c] ++ 101 :: Lib.itoa e) = [] := by unfold frac; rw [d2, x3]; rfl
      have f2 : behind ([c] ++ 101 :: Lib.itoa e) = 101 :: Lib.itoa e := by unfold behind; rw [d2, x3]; rfl
      refine ⟨?_, ?_, ?_, _, rfl⟩
      · unfold finB; rw [f1, f2, x1, d1]; rfl
      · unfold finD; rw [f1, d1]
        rw [hr0] at hbar
        exact hbar
      · unfold finE; rw [f1, f2, x2]
        exact clamp_id (by simp; omega)
    | cons a t =>
      rw [← hr0]
      have hu : unT (c :: r) e = [c] ++ 46 :: (r ++ (101 :: Lib.itoa e)) := by
        unfold unT
        rw [hr0]
        simp
      rw [hu]
      obtain ⟨d1, d2⟩ := dgs_app2 (m := 46 :: (r ++ (101 :: Lib.itoa e))) hall rfl
      obtain ⟨d3, d4⟩ := dgs_app2 (m := 101 :: Lib.itoa e) hr x4
      have e1 : Lib.hasPrefix (46 :: (r ++ (101 :: Lib.itoa e))) [46] = true := rfl
      have e2 : Lib.trimPrefix (46 :: (r ++ (101 :: Lib.itoa e))) [46] = r ++ (101 :: Lib.itoa e) := rfl
      have f1 : frac ([c] ++ 46 :: (r ++ (101 :: Lib.itoa e))) = r := by unfold frac; rw [d2, e1, e2, d3]; rfl
      have f2 : behind ([c] ++ 46 :: (r ++ (101 :: Lib.itoa e))) = 101 :: Lib.itoa e := by unfold behind; rw [d2, e1, e2, d4]; rfl
      refine ⟨?_, ?_, ?_, _, rfl⟩
      · unfold finB; rw [f1, f2, x1, d1]; rfl
      · unfold finD; rw [f1, d1]
        exact hbar
      · unfold finE; rw [f1, f2, x2]
        exact clamp_id (by omega)
  obtain ⟨k1, k2, k3, t, k4⟩ := key
  unfold cutP
  have hs : (sgL s ++ unT (c :: r) e).length ≤ 4000 := by
    rw [List.length_append]
    have : (sgL s).length ≤ 1 := by cases s <;> decide
    omega
  rw [if_neg (by omega)]
  have hsg : gsgB (sgL s ++ unT (c :: r) e) = s ∧ sgR (sgL s ++ unT (c :: r) e) = unT (c :: r) e := by
    rw [k4]
    exact sig_app s c t ⟨by omega, by omega⟩
  rw [hsg.1, hsg.2]
  unfold bodP
  rw [if_pos k1, k2, k3]
end Go.Proofs.YtehgnckgmdkfmaaGreatDoor

namespace Go.Proofs.YtehgnckgmdkfmaaGreatDoor

/-- a decimal number's text: what Read answers -/
theorem dec_cut (s : Bool) {D : List UInt8} {e ex : Int} (hg : gdD D) (h0 : D ≠ []) (hl : D.length ≤ 3950) (he : -50000 ≤ ex ∧ ex ≤ 50000) (hE : e = ex + D.length - 1) :
    cutP (sgL s ++ unT D e) = some ⟨1, s, false, D, ex⟩ := by
  cases D with
  | nil => exact absurd rfl h0
  | cons c r =>
    have ha := gdD_all hg
    rw [List.all_cons, Bool.and_eq_true] at ha
    have hc0 : (c.toNat : Int) ≠ 48 := by
      rcases hg with h | ⟨_, h⟩
      · cases h
      · rw [by_zero] at h; exact h
    rw [List.length_cons] at hl hE
    have := un_cut s (e := e) ha.1 hc0 ha.2 (by omega) (by omega)
    rw [this, hE]
    congr 2
    omega
end Go.Proofs.YtehgnckgmdkfmaaGreatDoor

namespace Go.Proofs.YtehgnckgmdkfmaaGreatDoor
open Go.RowKit
/-- a nought's text is cut up -/
theorem zero_cut (s : Bool) {e : Int} (he : -100000 ≤ e ∧ e ≤ 100000) : cutP (sgL s ++ unT [48] e) = some ⟨1, s, false, [], e⟩ := by
  have hlen : (unT [48] e).length ≤ 26 := by have := unT_brief (D := [48]) he; rw [List.length_cons, List.length_nil] at this; omega
  obtain ⟨x1, x2, x3, x4, x5⟩ := ex_any e (by omega)
  have hu : unT [48] e = [48] ++ (101 :: Lib.itoa e) := rfl
  have key : finB (unT [48] e) = true ∧ finD (unT [48] e) = [] ∧ finE (unT [48] e) = e ∧ ∃ t, unT [48] e = 48 :: t := by
    rw [hu]
    obtain ⟨d1, d2⟩ := dgs_app2 (l := [48]) (m := 101 :: Lib.itoa e) (by decide) x4
    have f1 : frac ([48] ++ 101 :: Lib.itoa e) = [] := by unfold frac; rw [d2, x3]; rfl
    have f2 : behind ([48] ++ 101 :: Lib.itoa e) = 101 :: Lib.itoa e := by unfold behind; rw [d2, x3]; rfl
    refine ⟨?_, ?_, ?_, _, rfl⟩
    · unfold finB; rw [f1, f2, x1, d1]; rfl
    · unfold finD; rw [f1, d1]; rfl
    · unfold finE; rw [f1, f2, x2]
      rw [show e - ((([] : List UInt8).length : Nat) : Int) = e by simp]
      exact clamp_id (by omega)
  obtain ⟨k1, k2, k3, t, k4⟩ := key
  unfold cutP
  have hs : (sgL s ++ unT [48] e).length ≤ 4000 := by
    rw [List.length_append]
    have : (sgL s).length ≤ 1 := by cases s <;> decide
    omega
  rw [if_neg (by omega)]
  have hsg : gsgB (sgL s ++ unT [48] e) = s ∧ sgR (sgL s ++ unT [48] e) = unT [48] e := by
    rw [k4]
    exact sig_app s 48 t ⟨by decide, by decide⟩
  rw [hsg.1, hsg.2]
  unfold bodP
  rw [if_pos k1, k2, k3]
/-- a coefficient's digits, as they are written -/
def wtD (k : Nat) : List UInt8 := if k = 0 then [48] else dcL k
/-- the text of a datum -/
def xtT (v : Dat) : List UInt8 := if v.c = 1 then sgL v.s ++ unT (wtD v.k) (v.x + (wtD v.k).length - 1) else texT v.c v.s v.g (dcL v.k) 0
/-- its parts -/
def xtP (v : Dat) : Prt := ⟨v.c, v.s, v.g, dcL v.k, if v.c = 1 then v.x else 0⟩
theorem dcL_ne {k : Nat} (h0 : k ≠ 0) (hk : k < 2 ^ 256) : dcL k ≠ [] := by
  obtain ⟨f1, f2, f3⟩ := dcL_facts hk
  intro e
  rw [e, dV_nil] at f2
  exact h0 f2.symm
theorem vI_k {f : DF} (hf : f.ok) {v : Dat} (h : vI f v) : v.k < 2 ^ 256 := by
  obtain ⟨m0, m1, l0, l1, lm, j0, j1⟩ := ok_m hf
  have h1 : (10 : Nat) ^ (3 * f.j + 1) ≤ 10 ^ 34 := Nat.pow_le_pow_right (by decide) (by omega)
  have h2 : (10 : Nat) ^ (3 * f.j) ≤ 10 ^ 34 := Nat.pow_le_pow_right (by decide) (by omega)
  have h3 : (10 : Nat) ^ 34 < 2 ^ 256 := by decide
  rcases h with ⟨_, _, a, _⟩ | ⟨_, _, a, _⟩ | ⟨_, _, a⟩
  · omega
  · rw [a]; decide
  · omega
theorem xt_cut {f : DF} (hf : f.ok) {v : Dat} (h : vI f v) : cutP (xtT v) = some (xtP v) ∧ (xtT v).length ≤ 3001 := by
  obtain ⟨m0, m1, l0, l1, lm, j0, j1⟩ := ok_m hf
  have hk := vI_k hf h
  obtain ⟨f1, f2, f3⟩ := dcL_facts hk
  obtain ⟨c, s, g, x, k⟩ := v
  unfold xtT xtP
  dsimp only at *
  rcases h with ⟨h1, h2, h3, h4, h5⟩ | ⟨h1, h2, h3, h4⟩ | ⟨h1, h2, h3⟩
  · dsimp only at h1 h2 h3 h4 h5
    subst h1 h2
    have hx : -10000 ≤ x ∧ x ≤ 10000 := by unfold DF.m at *; omega
    rw [if_pos rfl, if_pos rfl]
    unfold wtD
    by_cases h0 : k = 0
    · rw [if_pos h0, h0, show dcL 0 = [] by kernel_rfl, show x + ((([48] : List UInt8).length : Nat) : Int) - 1 = x by simp]
      refine ⟨zero_cut s (by omega), ?_⟩
      have hlen : (unT [48] x).length ≤ 26 := by have := unT_brief (D := [48]) (e := x) (by omega); rw [List.length_cons, List.length_nil] at this; omega
      rw [List.length_append]
      have : (sgL s).length ≤ 1 := by cases s <;> decide
      omega
    · rw [if_neg h0]
      refine ⟨dec_cut s f1 (dcL_ne h0 hk) (by omega) (by omega) rfl, ?_⟩
      have hlen := unT_brief (D := dcL k) (e := x + (dcL k).length - 1) (by omega)
      rw [List.length_append]
      have : (sgL s).length ≤ 1 := by cases s <;> decide
      omega
  · dsimp only at h1 h2 h3 h4
    subst h1 h2 h3 h4
    have e0 : dcL 0 = [] := by kernel_rfl
    rw [e0]
    exact ⟨by cases s <;> kernel_rfl, by cases s <;> decide⟩
  · dsimp only at h1 h2 h3
    subst h1 h2
    have hlen : (texT 3 s g (dcL k) 0).length ≤ 3001 := by
      have := tex_len2 (c := 3) (s := s) (g := g) (d := dcL k) (e := 0) (by decide)
      omega
    have hj := (jn_of_gd (p := ⟨3, s, g, dcL k, 0⟩) ⟨f1, Or.inr (Or.inr ⟨rfl, rfl, by show (texT 3 s g (dcL k) 0).length ≤ 4000; omega⟩)⟩).2
    exact ⟨hj, hlen⟩
/-- what parts are made: the datum, the flags, the error -/
noncomputable def dmD (n d : Int) (p : Prt) : Dat :=
  if p.cls = 1 then rqD n d p.sg (dV p.dig) 1 p.ex p.ex else ⟨p.cls, p.sg, p.sn, 0, if p.cls = 3 then (if 10 ^ (3 * (fD n).j) ≤ dV p.dig then 0 else dV p.dig) else 0⟩
noncomputable def dmF (n d : Int) (p : Prt) : Int := if p.cls = 1 then rqF n d p.sg (dV p.dig) 1 p.ex else 0
theorem dm_is {n d : Int} (hn : decN n) (hd : knB d) {p : Prt} (hg : gdP p) (hb : bl (dV p.dig) ≤ 25600) : vI (fD n) (dmD n d p) := by
  obtain ⟨m0, m1, l0, l1, lm, j0, j1⟩ := ok_m (fD_ok n)
  obtain ⟨_, hp⟩ := hg
  unfold dmD
  rcases hp with ⟨h1, _⟩ | ⟨h1, h2, h3, h4⟩ | ⟨h1, h2, h3⟩
  · rw [if_pos h1]
    have hE : rqE n d (dV p.dig) 1 = 0 := by
      unfold rqE
      rw [if_pos ⟨hn, hd, by decide⟩, if_neg]
      have : bl 1 ≤ 1 := bl_le.2 (by decide)
      omega
    unfold rqD
    rw [if_pos hE]
    by_cases h0 : dV p.dig = 0
    · rw [if_pos h0]
      exact Or.inl ⟨rfl, rfl, ten_pos _, by show (fD n).l ≤ min (max p.ex (fD n).l) (fD n).m; omega, by show min (max p.ex (fD n).l) (fD n).m ≤ (fD n).m; omega⟩
    · rw [if_neg h0]
      have hp : 0 < 1 * 10 ^ (-(clT p.ex)).toNat := Nat.mul_pos (by decide) (ten_pos _)
      exact dkD_is (fD_ok n) hp (tnX_is (Nat.mul_pos (by omega) (ten_pos _)) hp)
  · rw [if_neg (by rw [h1]; decide)]
    exact Or.inr (Or.inl ⟨h1, h2, by show (if p.cls = 3 then _ else 0) = 0; rw [if_neg (by rw [h1]; decide)], rfl⟩)
  · rw [if_neg (by rw [h1]; decide)]
    refine Or.inr (Or.inr ⟨h1, rfl, ?_⟩)
    show (if p.cls = 3 then _ else 0) < _
    rw [if_pos h1]
    split
    · exact ten_pos _
    · omega
section
/-- a datum's cells -/
abbrev zd : Array Value := #[.int .i64 0, .bool false, .bool false, .int .i64 0, .int .u64 0, .int .u64 0, .int .u64 0, .int .u64 0]
abbrev dvc (c : Int) (s g : Bool) (x : Int) (k : Nat) : Array Value := #[.int .i64 c, .bool s, .bool g, .int .i64 x, .int .u64 (W4 k 0), .int .u64 (W4 k 1), .int .u64 (W4 k 2), .int .u64 (W4 k 3)]
theorem below_cellsD {n b : Nat} {a : World} (hb : n ≤ b) : ∀ (vs : List Value) (o : Nat) (W : World), Below n a W → Below n a (W.setCells b o vs)
  | [], _, _, h => h
  | v :: r, o, W, h => below_cellsD hb r (o + 1) _ (h.setCell hb v)
/-- a block that holds a datum -/
def D8 (g : Nat) (cs : Array Value) (w : World) : Prop := g < w.heap.size ∧ cs.size = 8 ∧ (∀ i, i < 8 → w.cell? ⟨g, i, none⟩ = cs[i]?) ∧ ∀ i, w.frozen? ⟨g, i, none⟩ = false
theorem D8.next {g : Nat} {cs : Array Value} {w w' : World} (h : D8 g cs w) (hb : Below w.heap.size w w') : D8 g cs w' :=
  ⟨Nat.lt_of_lt_of_le h.1 hb.size, h.2.1, fun i hi => (hb.cell (p := ⟨g, i, none⟩) h.1).trans (h.2.2.1 i hi), fun i => (hb.frozen (p := ⟨g, i, none⟩) h.1).trans (h.2.2.2 i)⟩
theorem D8.new (w : World) : D8 w.heap.size zd (w.alloc (.cells zd 39)) := by
  refine ⟨by simp, rfl, fun i hi => ?_, fun i => ?_⟩
  · rw [World.cell?_alloc_new]
  · simp [go_sem]
theorem D8.put {g : Nat} {cs cs' : Array Value} {w : World} (h : D8 g cs w) (hs : cs'.size = 8) : D8 g cs' (w.setCells g 0 cs'.toList) := by
  have hin := World.cell?_setCells_in g cs'.toList 0 w (fun j hj => by
    rw [Nat.zero_add, h.2.2.1 j (by simpa [hs] using hj), Array.getElem?_eq_getElem (by rw [h.2.1]; simpa [hs] using hj)]; rfl)
  refine ⟨Nat.lt_of_lt_of_le h.1 (below_cellsD (n := 0) (Nat.zero_le _) _ _ _ (Below.refl 0 w)).size, hs, fun i hi => ?_, fun i => ?_⟩
  · have := hin i (by simpa [hs] using hi)
    rw [Nat.zero_add] at this
    rw [this, Array.getElem?_eq_getElem (by rw [hs]; exact hi)]
    simp
  · rw [World.frozen?_setCells]; exact h.2.2.2 i
attribute [local irreducible] W4 Nt NT
section
variable {a : Act} {w : World} {K : Act → World → Prop} {Q : Exit → Act → World → Prop} {d p q : Nat} {ty : TypeId} {pos : String} {after : Array Edge} {gd : Option (Nat × Bool)}
theorem od_ld4 {g i : Nat} {v : Value} (h1 : slot a p = .pointer (some ⟨g, i, none⟩)) (h2 : w.cell? ⟨g, i, none⟩ = some v) (hK : K (a.put (some d) v) w) : Oper.wp Tryz.prog { dst := some d, op := Op.load 4 (Operand.tmp p), type := ty, pos := pos, after := after, guard := gd } a w K Q := by
  unfold slot at h1
  simp [go_sem, h1, h2]
  exact hK
theorem od_alc (hK : K (a.put (some d) (.pointer (some ⟨w.heap.size, 0, none⟩))) (w.alloc (.cells zd 39))) : Oper.wp Tryz.prog { dst := some d, op := Op.alloc 39, type := ty, pos := pos, after := after, guard := gd } a w K Q := by
  simp [go_sem]
  exact hK
theorem od_st {g : Nat} {c x : Int} {s b : Bool} {k : Nat} {cs : Array Value} (h1 : slot a p = .pointer (some ⟨g, 0, none⟩)) (h2 : slot a q = DV c s b x k) (hB : D8 g cs w) (hK : K (a.put none undef) (w.setCells g 0 (dvc c s b x k).toList)) : Oper.wp Tryz.prog { dst := none, op := Op.store 39 (Operand.tmp p) (Operand.tmp q), type := ty, pos := pos, after := after, guard := gd } a w K Q := by
  refine wp_store_mid 39 (.tmp p) (.tmp q) rfl g 0 (dvc c s b x k) (by unfold slot at h1; simp [go_sem, h1]) (by unfold slot at h2; simp [go_sem, h2]) (fun j hj => ?_) (by kernel_rfl) (by simp [Value.oneCell']) hK
  rw [Nat.zero_add, hB.2.2.1 j hj, Array.getElem?_eq_getElem (by rw [hB.2.1]; exact hj)]
  exact ⟨rfl, hB.2.2.2 j⟩
end
/-- what stands while the statement is under way -/
def M7 (ws : World) (cv : Array Value) (L : Nat → Prop) (f : Nat → Value) (w : World) : Prop :=
  Below ws.heap.size ws w ∧ (L 6 → L 10 ∨ Nt 1 1 (f 61) w) ∧ (L 15 → ∃ g cs, f 14 = .pointer (some ⟨g, 0, none⟩) ∧ ws.heap.size ≤ g ∧ D8 g cs w ∧ (L 16 → cs = cv))
theorem M7.step {ws w : World} {cv : Array Value} {k t : Nat} {L : Nat → Prop} {f : Nat → Value} {v : Value} (h : M7 ws cv L f w) (h1 : t ≠ 61) (h2 : t ≠ 14) (h3 : k ≠ 6) (h4 : k ≠ 15) (h5 : k ≠ 16) (h6 : k ≠ 10) : M7 ws cv (fun j => L j ∨ j = k) (fun u => if some t = some u then v else f u) w := by
  obtain ⟨a1, a2, a3⟩ := h
  have e61 : (if some t = some 61 then v else f 61) = f 61 := if_neg (fun e => h1 (Option.some.inj e))
  have e14 : (if some t = some 14 then v else f 14) = f 14 := if_neg (fun e => h2 (Option.some.inj e))
  refine ⟨a1, fun h => ?_, fun h => ?_⟩
  · rcases a2 (h.resolve_right (fun e => h3 e.symm)) with q | q
    · exact Or.inl (Or.inl q)
    · right; show Nt 1 1 (if some t = some 61 then v else f 61) w; rw [e61]; exact q
  · obtain ⟨g, cs, b1, b2, b3, b4⟩ := a3 (h.resolve_right (fun e => h4 e.symm))
    exact ⟨g, cs, e14.trans b1, b2, b3, fun h => b4 (h.resolve_right (fun e => h5 e.symm))⟩
end
section
attribute [local irreducible] W4
/-- Unpack's answers of a good pattern and of another one -/
theorem vU_good {n : Int} {B : Nat} (h : goodD n B) : vUD n B = vM (fD n) B ∧ vUC n B = decide (vP (fD n) (vM (fD n) B) = B) ∧ vUE n B = 0 := by
  unfold vUD vUC vUE
  exact ⟨if_pos h, decide_eq_decide.2 ⟨fun q => q.2, fun q => ⟨h, q⟩⟩, if_pos h⟩
theorem vU_bad {n : Int} {B : Nat} (h : ¬ goodD n B) : vUD n B = ⟨0, false, false, 0, 0⟩ ∧ vUC n B = false ∧ vUE n B = 1 := by
  unfold vUD vUC vUE
  exact ⟨if_neg h, decide_eq_false fun q => h q.1, if_neg h⟩
end
theorem tnG_ab (N D : Nat) {e : Int} {a b : Nat} (h : (a : Int) - b = e) : tnG N D e ↔ D * 10 ^ a ≤ N * 10 ^ b := by
  obtain ⟨k, hk⟩ : ∃ k : Nat, a = e.toNat + k := ⟨a - e.toNat, by omega⟩
  have hb : b = (-e).toNat + k := by omega
  unfold tnG
  rw [hk, hb, Nat.pow_add, Nat.pow_add, ← Nat.mul_assoc, ← Nat.mul_assoc]
  exact (Nat.mul_le_mul_right_iff (ten_pos k)).symm
theorem tnG_sh (N D : Nat) (e x : Int) : tnG (N * 10 ^ x.toNat) (D * 10 ^ (-x).toNat) (e + x) ↔ tnG N D e := by
  rw [tnG_ab N D (show (((e + x).toNat + (-x).toNat : Nat) : Int) - (((-(e + x)).toNat + x.toNat : Nat) : Int) = e by omega)]
  unfold tnG
  rw [Nat.pow_add, Nat.pow_add, Nat.mul_assoc, Nat.mul_assoc, Nat.mul_comm (10 ^ (e + x).toNat), Nat.mul_comm (10 ^ (-(e + x)).toNat)]
theorem TnE_sh {N D : Nat} {L : Int} (h : TnE N D L) (x : Int) : TnE (N * 10 ^ x.toNat) (D * 10 ^ (-x).toNat) (L + x) := by
  unfold TnE at *
  rw [show L + x + 1 = L + 1 + x by omega, tnG_sh, tnG_sh]
  exact h
theorem tnX_sh {N D : Nat} {L : Int} (hN : 0 < N) (hD : 0 < D) (h : TnE N D L) (x : Int) : tnX (N * 10 ^ x.toNat) (D * 10 ^ (-x).toNat) = L + x :=
  (tnX_is (Nat.mul_pos hN (ten_pos _)) (Nat.mul_pos hD (ten_pos _))).only (TnE_sh h x)
/-- the fraction at once -/
theorem dk_at (N D : Nat) (x q : Int) : ∃ k, 0 < k ∧ dkA (N * 10 ^ x.toNat) q = N * 10 ^ (x - q).toNat * k ∧ dkZ (D * 10 ^ (-x).toNat) q = D * 10 ^ (-(x - q)).toNat * k := by
  refine ⟨10 ^ (x.toNat + (-q).toNat - (x - q).toNat), ten_pos _, ?_, ?_⟩
  · unfold dkA
    rw [Nat.mul_assoc, Nat.mul_assoc, ← Nat.pow_add, ← Nat.pow_add]
    congr 2
    omega
  · unfold dkZ
    rw [Nat.mul_assoc, Nat.mul_assoc, ← Nat.pow_add, ← Nat.pow_add]
    congr 2
    omega
theorem dkC0_at (f : DF) (d : Int) (s : Bool) (N D : Nat) (x E : Int) : dkC0 f d s (N * 10 ^ x.toNat) (D * 10 ^ (-x).toNat) E = whC d s (N * 10 ^ (x - dkQ f E).toNat) (D * 10 ^ (-(x - dkQ f E)).toNat) := by
  obtain ⟨k, hk, h1, h2⟩ := dk_at N D x (dkQ f E)
  unfold dkC0
  rw [h1, h2, whC_mul _ _ _ _ hk]
theorem dkX_at (f : DF) (N D : Nat) (x E : Int) : dkX f (N * 10 ^ x.toNat) (D * 10 ^ (-x).toNat) E = decide (N * 10 ^ (x - dkQ f E).toNat % (D * 10 ^ (-(x - dkQ f E)).toNat) = 0) := by
  obtain ⟨k, hk, h1, h2⟩ := dk_at N D x (dkQ f E)
  unfold dkX
  rw [h1, h2, Nat.mul_mod_mul_right]
  refine decide_eq_decide.2 ?_
  rw [Nat.mul_eq_zero]
  omega
/-- far below the least number -/
theorem whC_low (d : Int) (s : Bool) {A Z : Nat} (hA : 0 < A) (h : 2 * A < Z) : whC d s A Z = if d ≠ 0 ∧ d ≠ 1 ∧ inB d s = true then 1 else 0 := by
  unfold whC faB
  rw [Nat.div_eq_of_lt (by omega), Nat.mod_eq_of_lt (by omega), if_neg (show ¬ A = 0 by omega)]
  by_cases h0 : d = 0
  · rw [if_pos h0, if_neg (by simp; omega), if_neg (by omega)]
  · rw [if_neg h0]
    by_cases h1 : d = 1
    · rw [if_pos h1, if_neg (by simp; omega), if_neg (by omega)]
    · rw [if_neg h1]
      cases inB d s
      · simp
      · simp [h0, h1]
theorem dk_low {f : DF} (hf : f.ok) (d : Int) (s : Bool) {N D : Nat} {E : Int} (y : Int) (hN : 0 < N) (h : TnE N D E) (hE : E ≤ f.l - 2) :
    dkD f d s N D E y = ⟨1, s, false, f.l, if d ≠ 0 ∧ d ≠ 1 ∧ inB d s = true then 1 else 0⟩ ∧ dkF f d s N D E = 12 := by
  obtain ⟨m0, m1, l0, l1, lm, j0, j1⟩ := ok_m hf
  have hq : dkQ f E = f.l := by unfold dkQ; omega
  have hn : ¬ tnG N D (f.l - 1) := fun g => h.2 (tnG_le g (by omega))
  rw [tnG_ab N D (show ((f.l.toNat : Nat) : Int) - (((-f.l).toNat + 1 : Nat) : Int) = f.l - 1 by omega), Nat.pow_succ, ← Nat.mul_assoc] at hn
  have hA : 0 < dkA N f.l := Nat.mul_pos hN (ten_pos _)
  have hAZ : dkA N f.l * 10 < dkZ D f.l := by unfold dkA dkZ; omega
  have hC : dkC0 f d s N D E = if d ≠ 0 ∧ d ≠ 1 ∧ inB d s = true then 1 else 0 := by
    unfold dkC0
    rw [hq]
    exact whC_low d s hA (by omega)
  have hX : dkX f N D E = false := by
    unfold dkX
    rw [hq, Nat.mod_eq_of_lt (by omega)]
    exact decide_eq_false (by omega)
  have hlt : ¬ (10 : Nat) ^ (3 * f.j + 1) ≤ dkC0 f d s N D E := by
    have : (10 : Nat) ^ 1 ≤ 10 ^ (3 * f.j + 1) := Nat.pow_le_pow_right (by decide) (by omega)
    rw [hC]
    split <;> omega
  have hEe : dkE f d s N D E = f.l := by unfold dkE; rw [if_neg hlt, hq]
  have hCc : dkC f d s N D E = if d ≠ 0 ∧ d ≠ 1 ∧ inB d s = true then 1 else 0 := by unfold dkC; rw [if_neg hlt, hC]
  unfold dkD dkF
  rw [hEe, hX, hCc]
  have hml : ¬ f.m < f.l := by omega
  refine ⟨?_, ?_⟩
  · rw [if_neg hml]; rfl
  · rw [if_neg hml]
    show (if E < f.l + 3 * f.j then (12 : Int) else 8) = 12
    exact if_pos (by omega)
/-- far above the greatest -/
theorem dk_high {f : DF} (d : Int) (s : Bool) {N D : Nat} {E : Int} (y : Int) (hE : f.m + (3 * f.j + 1) ≤ E) :
    dkD f d s N D E y = (if inB d s then ⟨2, s, false, 0, 0⟩ else ⟨1, s, false, f.m, 10 ^ (3 * f.j + 1) - 1⟩) ∧ dkF f d s N D E = 10 := by
  have hq : f.m < dkE f d s N D E := by unfold dkE dkQ; split <;> omega
  unfold dkD dkF
  rw [if_pos hq, if_pos hq]
  exact ⟨rfl, rfl⟩
/-- the exponent as the program takes it -/
def pX (f : DF) (L x : Int) : Int := min (max x (f.l - 2 - L)) (f.m + (3 * f.j + 1) - L)
theorem dk_clamp {f : DF} (hf : f.ok) (d : Int) (s : Bool) {N D : Nat} {L : Int} (x y : Int) (hN : 0 < N) (h : TnE N D L) (hL : -9000 ≤ L ∧ L ≤ 9000) :
    dkD f d s (N * 10 ^ (clT x).toNat) (D * 10 ^ (-(clT x)).toNat) (L + clT x) y = dkD f d s (N * 10 ^ (pX f L x).toNat) (D * 10 ^ (-(pX f L x)).toNat) (L + pX f L x) y
    ∧ dkF f d s (N * 10 ^ (clT x).toNat) (D * 10 ^ (-(clT x)).toNat) (L + clT x) = dkF f d s (N * 10 ^ (pX f L x).toNat) (D * 10 ^ (-(pX f L x)).toNat) (L + pX f L x) := by
  obtain ⟨m0, m1, l0, l1, lm, j0, j1⟩ := ok_m hf
  rcases Int.lt_or_le x (f.l - 2 - L) with c | c
  · have e1 : L + clT x ≤ f.l - 2 := by unfold clT; omega
    have e2 : L + pX f L x ≤ f.l - 2 := by unfold pX; omega
    obtain ⟨a1, a2⟩ := dk_low hf d s y (Nat.mul_pos hN (ten_pos _)) (TnE_sh h (clT x)) e1
    obtain ⟨b1, b2⟩ := dk_low hf d s y (Nat.mul_pos hN (ten_pos _)) (TnE_sh h (pX f L x)) e2
    exact ⟨a1.trans b1.symm, a2.trans b2.symm⟩
  · rcases Int.lt_or_le (f.m + (3 * f.j + 1) - L) x with c' | c'
    · have e1 : f.m + (3 * f.j + 1) ≤ L + clT x := by unfold clT; omega
      have e2 : f.m + (3 * f.j + 1) ≤ L + pX f L x := by unfold pX; omega
      obtain ⟨a1, a2⟩ := dk_high (f := f) (N := N * 10 ^ (clT x).toNat) (D := D * 10 ^ (-(clT x)).toNat) d s y e1
      obtain ⟨b1, b2⟩ := dk_high (f := f) (N := N * 10 ^ (pX f L x).toNat) (D := D * 10 ^ (-(pX f L x)).toNat) d s y e2
      exact ⟨a1.trans b1.symm, a2.trans b2.symm⟩
    · have e : clT x = pX f L x := by unfold clT pX; omega
      rw [e]
      exact ⟨rfl, rfl⟩
theorem tn_bd {N D : Nat} {L : Int} (hN : 0 < N) (hD : 0 < D) (h1 : bl N ≤ 25600) (h2 : bl D ≤ 25600) (h : TnE N D L) : -9000 ≤ L ∧ L ≤ 9000 := by
  have a := tnG_up hD h.1
  have b := tnG_dn hN h.2
  omega
/-- what decround answers, as the program reckons it -/
theorem drd_num {n d : Int} {s : Bool} {N D : Nat} {x y L : Int} (hE : rqE n d N D = 0) (hN : N ≠ 0) (h : TnE N D L) :
    rqD n d s N D x y = dkD (fD n) d s (N * 10 ^ (pX (fD n) L x).toNat) (D * 10 ^ (-(pX (fD n) L x)).toNat) (L + pX (fD n) L x) y
    ∧ rqF n d s N D x = dkF (fD n) d s (N * 10 ^ (pX (fD n) L x).toNat) (D * 10 ^ (-(pX (fD n) L x)).toNat) (L + pX (fD n) L x) := by
  obtain ⟨h1, h2, h3, h4, h5⟩ := rq_zero hE
  have hN' : 0 < N := by omega
  have hD' : 0 < D := by omega
  obtain ⟨a, b⟩ := dk_clamp (fD_ok n) d s x y hN' h (tn_bd hN' hD' h4 h5 h)
  unfold rqD rqF
  rw [if_pos hE, if_pos hE, if_neg hN, if_neg hN, tnX_sh hN' hD' h, a, b]
  exact ⟨rfl, rfl⟩
/-- a number's decimal digits; of 0 none -/
def dcW (X : Nat) : List UInt8 := if X = 0 then [] else dcD X (bl X)
theorem dcW_facts (X : Nat) : gdD (dcW X) ∧ dV (dcW X) = X := by
  unfold dcW
  by_cases h0 : X = 0
  · rw [if_pos h0]
    exact ⟨Or.inl rfl, h0 ▸ rfl⟩
  · rw [if_neg h0]
    have hX : (0 : Int) < X := by omega
    have hL : (X : Int) < 10 ^ bl X := by
      have h1 := (bl_bd h0).2.1
      have h2 := Nat.pow_le_pow_left (show 2 ≤ 10 by decide) (bl X)
      have h3 : X < 10 ^ bl X := by omega
      exact_mod_cast h3
    obtain ⟨d1, d2, d3⟩ := dcD_facts hX hL
    exact ⟨d1, by omega⟩
theorem dcW_ne {X : Nat} (h : X ≠ 0) : dcW X ≠ [] := fun e => h (by rw [← (dcW_facts X).2, e]; rfl)
end Go.Proofs.YtehgnckgmdkfmaaGreatDoor
