/-
  Texts that the proof leans on.
-/
import Derived.Test.YtgknbdehlmlipaaGreatDoorR45
import Derived.Test.YtgknbdehlmlipaaGreatDoorR22
import Derived.Test.YtgknbdehlmlipaaGreatDoorR34
import Derived.Test.YtgknbdehlmlipaaGreatDoorR35
import Derived.Test.YtgknbdehlmlipaaGreatDoorR26
import Derived.Test.YtgknbdehlmlipaaGreatDoorR31
import Derived.Deep.RegionWith
import Derived.Test.YtgknbdehlmlipaaGreatDoorR21
import Derived.Test.YtgknbdehlmlipaaGreatDoorR20
import Derived.Test.YtgknbdehlmlipaaGreatDoorR44
import Derived.Test.YtgknbdehlmlipaaGreatDoorR27
import Derived.Test.YtgknbdehlmlipaaGreatDoorR18
import Derived.Test.YtgknbdehlmlipaaGreatDoorR14
import Derived.Test.YtgknbdehlmlipaaGreatDoorR19
import Derived.Laws.BytesArg
import Derived.Test.YtgknbdehlmlipaaGreatDoorR11
import Derived.Test.YtgknbdehlmlipaaGreatDoorR15
import Derived.Shelf.SlicesE.Reverse
import Derived.RegionTactic
import Derived.ChangeAlike
import Derived.BigRegion
import Derived.Laws.Strings2
import Derived.Lib.AppendStr
import Derived.Lib.Builder
import Derived.Deep.AppendLies
import Derived.Test.YtgknbdehlmlipaaGreatDoorR4
import Derived.Test.YtgknbdehlmlipaaGreatDoorR2
import Derived.Test.YtgknbdehlmlipaaGreatDoorR1
import Derived.Test.YtgknbdehlmlipaaGreatDoorR8
import Derived.Test.YtgknbdehlmlipaaGreatDoorR41
import Derived.Test.YtgknbdehlmlipaaGreatDoorR9
import Derived.Test.YtgknbdehlmlipaaGreatDoorR47
import Derived.Test.YtgknbdehlmlipaaGreatDoorR36
import Derived.Test.YtgknbdehlmlipaaGreatDoorR32
import Derived.Test.YtgknbdehlmlipaaGreatDoorR28
import Derived.Deep.Cut
import Derived.Deep.CutRange
import Derived.Test.YtgknbdehlmlipaaGreatDoorR39
import Derived.Test.YtgknbdehlmlipaaGreatDoorR43
import Derived.Test.YtgknbdehlmlipaaGreatDoorR46
import Derived.Test.YtgknbdehlmlipaaGreatDoorR42
import Derived.Test.YtgknbdehlmlipaaGreatDoorR12
import Derived.Test.YtgknbdehlmlipaaGreatDoorR38
import Derived.Test.YtgknbdehlmlipaaGreatDoorR6
import Derived.Deep.MidRow
set_option linter.unusedVariables false
set_option linter.unusedSectionVars false
set_option linter.unusedSimpArgs false
set_option maxRecDepth 20000
namespace Go.Proofs.YtgknbdehlmlipaaGreatDoor
open Go.RowKit
/-- how many quarters below a number are read as it -/
def lwN (n x : Int) (k : Nat) : Nat := if nbB n x k then 1 else 2
def evK (k : Nat) : Bool := decide (k % 2 = 0)
/-- the first digit's place, and how many digits behind it -/
structure Shd (n x : Int) (k : Nat) (E : Int) (K : Nat) : Prop where
  t0 : tnP k x E
  t1 : ¬ tnP k x (E + 1)
  st : stK (evK k) (4 * k * oE x E) (lwN n x k * oE x E) (2 * oE x E) (zE x E) K = true
  mn : ∀ j, j < K → stK (evK k) (4 * k * oE x E) (lwN n x k * oE x E) (2 * oE x E) (zE x E) j = false
theorem gs_in {k : Nat} {x : Int} (hk : k < 2 ^ 256) (hk0 : k ≠ 0) (hx : -16990 ≤ x ∧ x ≤ 16990) : tnP k x (gsP k x) ∧ -6000 ≤ gsP k x ∧ gsP k x < 6000 := by
  have hb : bl k ≤ 256 := bl_le.2 hk
  obtain ⟨b1, b2, b3⟩ := bl_bd hk0
  have e : ((bl k - 1 : Nat) : Int) = (bl k : Int) - 1 := by omega
  have := guess_ok (c := k) (L := bl k - 1) (x := x) b1 (by omega)
  rw [e] at this
  refine ⟨this, ?_⟩
  unfold gsP
  by_cases h0 : 0 ≤ (bl k : Int) - 1 + x
  · rw [Int.tdiv_eq_ediv_of_nonneg (by omega)]; omega
  · rw [show ((bl k : Int) - 1 + x) * 30103 = -(-((bl k : Int) - 1 + x) * 30103) by omega, Int.neg_tdiv, Int.tdiv_eq_ediv_of_nonneg (by omega)]; omega
theorem Shd.ex {n x : Int} {k : Nat} (hk : k < 2 ^ 256) (hk0 : k ≠ 0) (hx : -16990 ≤ x ∧ x ≤ 16990) : ∃ E K, Shd n x k E K := by
  obtain ⟨g1, g2, g3⟩ := gs_in hk hk0 hx
  obtain ⟨E, e1, e2, e3, e4⟩ := tn_ex (6000 - gsP k x).toNat (gsP k x) g1 (by rw [show gsP k x + ((6000 - gsP k x).toNat : Int) = 6000 by omega]; exact tn_top hk (by omega))
  have hl : 0 < lwN n x k * oE x E := Nat.mul_pos (by unfold lwN; split <;> decide) (oE_pos _ _)
  obtain ⟨K, h1, h2⟩ := st_ex (c := evK k) (R := 4 * k * oE x E) (u := 2 * oE x E) (zE_pos x E) hl
  exact ⟨E, K, e3, e4, h1, h2⟩
section
theorem W4_none {k : Nat} (hk : k < 2 ^ 256) : decide (W4 k 0 = 0 ∧ W4 k 1 = 0 ∧ W4 k 2 = 0 ∧ W4 k 3 = 0) = decide (k = 0) := by
  by_cases h : k = 0
  · subst h
    rw [decide_eq_true (by simp [W4_zero]), decide_eq_true rfl]
  · rw [decide_eq_false h, decide_eq_false]
    rintro ⟨h0, h1, h2, h3⟩
    refine h (A4_inj hk (by decide) fun i hi => ?_)
    have : i = 0 ∨ i = 1 ∨ i = 2 ∨ i = 3 := by omega
    rcases this with rfl | rfl | rfl | rfl
    · rw [h0, W4_zero]
    · rw [h1, W4_zero]
    · rw [h2, W4_zero]
    · rw [h3, W4_zero]
attribute [local irreducible] W4
end
section
theorem NT.head {K V : Nat} {v : Value} {w : World} (h : NT K V v w) (hV : V ≠ 0) : ∃ g k cap z0, v = .slice (some ⟨g, 0, none⟩) k cap ∧ 0 < k ∧ k ≤ K ∧ g < w.heap.size ∧ w.cell? ⟨g, 0, none⟩ = some (.int .u64 z0) ∧ 0 ≤ z0 ∧ z0 ≤ 18446744073709551615 ∧ z0 % 2 = ((V % 2 : Nat) : Int) := by
  have hz := h.zero
  obtain ⟨g, k, cap, z, rfl, hk, ⟨n1, n2, n3, n4, n5⟩, hv, hs⟩ := h
  obtain ⟨g', k', cap', e, _, hz'⟩ := hz
  cases e
  have hk0 : k ≠ 0 := fun e => hV (hz'.1 e)
  rcases n5 with ⟨n5, _⟩ | ⟨b, off, e, hb, hc⟩
  · cases n5
  · cases e
    have hc0 := hc 0 (by omega)
    have hw := n3 0
    have hp := val_odd (by omega : 0 < k) hv
    exact ⟨g, k, cap, z 0, rfl, by omega, hk, hb, hc0, hw.1, hw.2, by omega⟩
attribute [local irreducible] W4 Nz Nt NT NV
end
section
attribute [local irreducible] W4 Nz Nt NT
def TU2 (X : Nat) (v : Value) (w : World) : Prop := ∃ q, v = .tuple #[q, .int .i64 0] ∧ NT 2001 X q w
theorem TU2.next {X : Nat} {v : Value} {w w' : World} (h : TU2 X v w) (hb : Below w.heap.size w w') : TU2 X v w' := by
  obtain ⟨q, e, hq⟩ := h
  exact ⟨q, e, hq.next hb⟩
end
section
attribute [local irreducible] W4
section
variable (n : Int) (Bp : Nat) (c x : Int) (s g ok : Bool) (k : Nat) (E : Int) (w : World)
end
theorem mD_256 (n : Int) (B : Nat) : (mD n B).k < 2 ^ 256 := by
  unfold mD
  split
  · exact unD_k n B
  · exact vUD_256 n B
end
theorem tnE_find {N D : Nat} (lo : Int) (h : tnG N D lo) : ∀ k : Nat, ¬ tnG N D (lo + k) → ∃ E, TnE N D E
  | 0, h' => absurd (by simpa using h) h'
  | k + 1, h' => by
    by_cases hk : tnG N D (lo + k)
    · exact ⟨lo + k, hk, by rw [show lo + (k : Int) + 1 = lo + ((k + 1 : Nat) : Int) by omega]; exact h'⟩
    · exact tnE_find lo h k hk
theorem tnE_ex {N D : Nat} (hN : 0 < N) (hD : 0 < D) : ∃ E, TnE N D E := by
  refine tnE_find (-(D : Int)) ?_ (N + D) ?_
  · unfold tnG
    rw [show (-(D : Int)).toNat = 0 by omega, Int.neg_neg, Int.toNat_natCast, Nat.pow_zero, Nat.mul_one]
    have h1 : D < 10 ^ D := Nat.lt_pow_self (by decide)
    exact Nat.le_trans (Nat.le_of_lt h1) (Nat.le_mul_of_pos_left _ hN)
  · rw [show -(D : Int) + ((N + D : Nat) : Int) = (N : Int) by omega]
    unfold tnG
    rw [show (-(N : Int)).toNat = 0 by omega, Int.toNat_natCast, Nat.pow_zero, Nat.mul_one]
    have h1 : N < 10 ^ N := Nat.lt_pow_self (by decide)
    have h2 : 10 ^ N ≤ D * 10 ^ N := Nat.le_mul_of_pos_left _ hD
    omega
/-- the exponent as the document takes it -/
def clT (x : Int) : Int := min (max x (-20000)) 20000
theorem ok_m {f : DF} (h : f.ok) : -10000 ≤ f.m ∧ f.m ≤ 10000 ∧ -10000 ≤ f.l ∧ f.l ≤ 10000 ∧ f.l ≤ f.m ∧ 2 ≤ f.j ∧ f.j ≤ 11 := by
  unfold DF.m
  rcases h with ⟨h1, h2, h3, h4⟩ | ⟨h1, h2, h3, h4⟩ | ⟨h1, h2, h3, h4⟩ <;> rw [h2, h3, h4] <;> decide
/-- the exponent of a fraction's first digit -/
noncomputable def tnX (N D : Nat) : Int := open Classical in if h : ∃ E, TnE N D E then Classical.choose h else 0
theorem tnX_is {N D : Nat} (hN : 0 < N) (hD : 0 < D) : TnE N D (tnX N D) := by
  have h := tnE_ex hN hD
  unfold tnX
  rw [dif_pos h]
  exact Classical.choose_spec h
/-- what decround answers -/
def rqE (n d : Int) (N D : Nat) : Int := if decN n ∧ knB d ∧ D ≠ 0 then (if 25600 < bl N ∨ 25600 < bl D then 4 else 0) else 1
noncomputable def rqD (n d : Int) (s : Bool) (N D : Nat) (x y : Int) : Dat :=
  if rqE n d N D = 0 then (if N = 0 then ⟨1, s, false, min (max y (fD n).l) (fD n).m, 0⟩ else dkD (fD n) d s (N * 10 ^ (clT x).toNat) (D * 10 ^ (-(clT x)).toNat) (tnX (N * 10 ^ (clT x).toNat) (D * 10 ^ (-(clT x)).toNat)) y) else ⟨0, false, false, 0, 0⟩
noncomputable def rqF (n d : Int) (s : Bool) (N D : Nat) (x : Int) : Int :=
  if rqE n d N D = 0 then (if N = 0 then 0 else dkF (fD n) d s (N * 10 ^ (clT x).toNat) (D * 10 ^ (-(clT x)).toNat) (tnX (N * 10 ^ (clT x).toNat) (D * 10 ^ (-(clT x)).toNat))) else 0
section
theorem tnX_eq {N D : Nat} {E : Int} (hN : 0 < N) (hD : 0 < D) (h : TnE N D E) : tnX N D = E := (tnX_is hN hD).only h
theorem third : rqD 7 0 false 1 3 0 0 = ⟨1, false, false, -7, 3333333⟩ ∧ rqF 7 0 false 1 3 0 = 8 ∧ rqE 7 0 1 3 = 0 := by
  have e0 : rqE 7 0 1 3 = 0 := by
    have b1 : bl 1 ≤ 2 := bl_le.2 (by decide)
    have b3 : bl 3 ≤ 2 := bl_le.2 (by decide)
    unfold rqE
    rw [if_pos ⟨by unfold decN; omega, by unfold knB; omega, by decide⟩, if_neg (by omega)]
  have eX : tnX (1 * 10 ^ (clT 0).toNat) (3 * 10 ^ (-(clT 0)).toNat) = -1 := tnX_eq (by decide) (by decide) ⟨by decide, by decide⟩
  refine ⟨?_, ?_, e0⟩
  · unfold rqD
    rw [if_pos e0, if_neg (by decide), eX]
    have h1 : (dkD (fD 7) 0 false (1 * 10 ^ (clT 0).toNat) (3 * 10 ^ (-(clT 0)).toNat) (-1) 0).c = 1 ∧ (dkD (fD 7) 0 false (1 * 10 ^ (clT 0).toNat) (3 * 10 ^ (-(clT 0)).toNat) (-1) 0).s = false ∧ (dkD (fD 7) 0 false (1 * 10 ^ (clT 0).toNat) (3 * 10 ^ (-(clT 0)).toNat) (-1) 0).g = false ∧ (dkD (fD 7) 0 false (1 * 10 ^ (clT 0).toNat) (3 * 10 ^ (-(clT 0)).toNat) (-1) 0).x = -7 ∧ (dkD (fD 7) 0 false (1 * 10 ^ (clT 0).toNat) (3 * 10 ^ (-(clT 0)).toNat) (-1) 0).k = 3333333 := by decide +kernel
    generalize dkD (fD 7) 0 false (1 * 10 ^ (clT 0).toNat) (3 * 10 ^ (-(clT 0)).toNat) (-1) 0 = R at h1 ⊢
    obtain ⟨c, s, g, x, k⟩ := R
    simp only at h1
    obtain ⟨rfl, rfl, rfl, rfl, rfl⟩ := h1
    rfl
  · unfold rqF
    rw [if_pos e0, if_neg (by decide), eX]
    decide +kernel
attribute [local irreducible] W4 Nt
end
/-- a word of the program's integers -/
def i6 (x : Int) : Prop := -9223372036854775808 ≤ x ∧ x ≤ 9223372036854775807
section
attribute [local irreducible] W4
section
variable (f g : Int) (Ar Br : Nat) (c x c' x' : Int) (s e s' e' : Bool) (k k' : Nat) (P P' : Int) (E E' : Int) (w : World)
  (c1 : ∀ W, Calls Tryz.prog 15 #[.int .i64 f, A4 Ar] W fun r w' => r = .returned (.tuple #[DV c s e x k, .int .u64 P, .int .i64 E]) ∧ Below W.heap.size W w')
  (c2 : ∀ W, Calls Tryz.prog 15 #[.int .i64 g, A4 Br] W fun r w' => r = .returned (.tuple #[DV c' s' e' x' k', .int .u64 P', .int .i64 E']) ∧ Below W.heap.size W w')
include c1 c2
variable (hE : (E != 0) = false) (hE' : (E' != 0) = false)
include hE hE'
end
theorem mX_or (n : Int) : mX n = 2 ∨ mX n = 10 := by unfold mX; split; exact Or.inl rfl; exact Or.inr rfl
theorem mD_x (n : Int) (B : Nat) : (-17000 ≤ (mD n B).x ∧ (mD n B).x ≤ 17000) ∧ (mX n = 10 → -10000 ≤ (mD n B).x ∧ (mD n B).x ≤ 10000) := by
  unfold mD mX
  by_cases h : binN n
  · rw [if_pos h, if_pos h]
    refine ⟨?_, fun q => absurd q (by decide)⟩
    by_cases hg : goodN n B
    · have hl : -16990 ≤ leastN n ∧ mostN n ≤ 16990 := by rcases bin_cases h with rfl | rfl | rfl | rfl | rfl | rfl <;> decide
      rcases und_is hg with ⟨h1, h2, h3, h4, h5, h6⟩ | ⟨h1, h2, h3, h4⟩ | ⟨h1, h2, h3, h4⟩ <;> omega
    · have e : unD n B = ⟨0, false, false, 0, 0⟩ := if_neg hg
      rw [e]
      decide
  · rw [if_neg h, if_neg h]
    have hx : -10000 ≤ (vUD n B).x ∧ (vUD n B).x ≤ 10000 := by
      by_cases hg : goodD n B
      · rw [show vUD n B = vM (fD n) B from if_pos hg]
        have hf := fD_ok n
        obtain ⟨m0, m1, l0, l1, lm, j0, j1⟩ := ok_m hf
        rcases vM_is hf B with ⟨h1, h2, h3, h4, h5⟩ | ⟨h1, h2, h3, h4⟩ | ⟨h1, h2, h3⟩
        · unfold DF.m at *; omega
        · omega
        · omega
      · rw [show vUD n B = ⟨0, false, false, 0, 0⟩ from if_neg hg]
        decide
    exact ⟨by omega, fun _ => hx⟩
end
section
theorem nine_cases {i : Nat} (h : i < 9) : i = 0 ∨ i = 1 ∨ i = 2 ∨ i = 3 ∨ i = 4 ∨ i = 5 ∨ i = 6 ∨ i = 7 ∨ i = 8 := by omega
attribute [local irreducible] W4 Nt Nz NT
section
variable (n : Int) (B : Nat) (c x : Int) (s g : Bool) (k : Nat) (E b num wi pr ex le mo pa : Int) (nm : ByteArray) (de : Bool) (w : World) (hT : Tab w)
include hT
set_option maxHeartbeats 2000000 in
theorem unp_e
    (c1 : ∀ W, Tab W → Calls Tryz.prog 81 #[.int .i64 n] W fun r w' => r = .returned (.tuple #[.agg #[.int .i64 num, .string nm, .int .i64 b, .int .i64 wi, .int .i64 pr, .int .i64 ex, .int .i64 le, .int .i64 mo, .int .i64 pa, .bool de], .int .i64 1]) ∧ Below W.heap.size W w') :
    Calls Tryz.prog 40 #[.int .i64 n, A4 B] w fun r w' => r = .returned (.tuple #[OV 0 false false 0 0 0, .int .i64 1]) ∧ Below w.heap.size w w' := by
  have hsm := cell_set_map
  have z0 : W4 0 0 = 0 ∧ W4 0 1 = 0 ∧ W4 0 2 = 0 ∧ W4 0 3 = 0 := by unfold W4; decide
  obtain ⟨z0, z1, z2, z3⟩ := z0
  unfold OV
  rw [z0, z1, z2, z3]
  go_enter Tryz.func40, Tryz.ntmps40
  go_wp2_with (go_at_call 81; refine (c1 _ (hT.go bgo)).mono ?_; rintro r w1 ⟨rfl, hb1⟩; obtain ⟨hc1, hf1⟩ := bcell hb1; have hz1_0 : w.heap.size < w1.heap.size := lt_below hb1 ltg; have hl1_0 := Nat.le_of_lt hz1_0; have hz1_1 : w.heap.size + 1 < w1.heap.size := lt_below hb1 ltg; have hl1_1 := Nat.le_of_lt hz1_1; have hA1 := bnext (w0 := w) bgo hb1; have hs1 := hA1.size; clear hb1)
  exact bodyPost_ret (by simp only [results, Tryz.results40]; go_simp) rfl ⟨rfl, bgo⟩
variable (c1 : ∀ W, Tab W → Calls Tryz.prog 81 #[.int .i64 n] W fun r w' => r = .returned (.tuple #[.agg #[.int .i64 num, .string nm, .int .i64 b, .int .i64 wi, .int .i64 pr, .int .i64 ex, .int .i64 le, .int .i64 mo, .int .i64 pa, .bool de], .int .i64 0]) ∧ Below W.heap.size W w')
include c1
set_option maxHeartbeats 4000000 in
theorem unp_b (hb : b = 2)
    (c2 : ∀ W, Tab W → Calls Tryz.prog 82 #[.int .i64 n, A4 B] W fun r w' => r = .returned (.tuple #[DV c s g x k, .int .i64 E]) ∧ Below W.heap.size W w') :
    Calls Tryz.prog 40 #[.int .i64 n, A4 B] w fun r w' => r = .returned (.tuple #[OV c s g x k 2, .int .i64 E]) ∧ Below w.heap.size w w' := by
  have hsm := cell_set_map
  subst hb
  unfold OV
  go_enter Tryz.func40, Tryz.ntmps40
  go_wp2_with (first
    | (go_at_call 81; refine (c1 _ (hT.go bgo)).mono ?_; rintro r w1 ⟨rfl, hb1⟩; obtain ⟨hc1, hf1⟩ := bcell hb1; have hz1_0 : w.heap.size < w1.heap.size := lt_below hb1 ltg; have hl1_0 := Nat.le_of_lt hz1_0; have hz1_1 : w.heap.size + 1 < w1.heap.size := lt_below hb1 ltg; have hl1_1 := Nat.le_of_lt hz1_1; have hA1 := bnext (w0 := w) bgo hb1; have hs1 := hA1.size; clear hb1)
    | (go_at_call 82; refine (c2 _ (hT.go bgo)).mono ?_; rintro r w2 ⟨rfl, hb2⟩; obtain ⟨hc2, hf2⟩ := bcell hb2; have hz2_0 : w.heap.size < w2.heap.size := lt_below hb2 ltg; have hl2_0 := Nat.le_of_lt hz2_0; have hz2_1 : w.heap.size + 1 < w2.heap.size := lt_below hb2 ltg; have hl2_1 := Nat.le_of_lt hz2_1; have hz2_2 : w1.heap.size < w2.heap.size := lt_below hb2 ltg; have hl2_2 := Nat.le_of_lt hz2_2; have hz2_3 : w1.heap.size + 1 < w2.heap.size := lt_below hb2 ltg; have hl2_3 := Nat.le_of_lt hz2_3; have hA2 := bnext (w0 := w) bgo hb2; have hs2 := hA2.size; clear hb2))
  exact bodyPost_ret (by simp only [results, Tryz.results40]; go_simp) rfl ⟨rfl, bgo⟩
set_option maxHeartbeats 4000000 in
theorem unp_d (hb : b = 10) (ok : Bool)
    (c2 : ∀ W, Tab W → Calls Tryz.prog 66 #[.int .i64 n, A4 B] W fun r w' => r = .returned (.tuple #[DV c s g x k, .bool ok, .int .i64 E]) ∧ Below W.heap.size W w') :
    Calls Tryz.prog 40 #[.int .i64 n, A4 B] w fun r w' => r = .returned (.tuple #[OV c s g x k 10, .int .i64 E]) ∧ Below w.heap.size w w' := by
  have hsm := cell_set_map
  subst hb
  unfold OV
  go_enter Tryz.func40, Tryz.ntmps40
  go_wp2_with (first
    | (go_at_call 81; refine (c1 _ (hT.go bgo)).mono ?_; rintro r w1 ⟨rfl, hb1⟩; obtain ⟨hc1, hf1⟩ := bcell hb1; have hz1_0 : w.heap.size < w1.heap.size := lt_below hb1 ltg; have hl1_0 := Nat.le_of_lt hz1_0; have hz1_1 : w.heap.size + 1 < w1.heap.size := lt_below hb1 ltg; have hl1_1 := Nat.le_of_lt hz1_1; have hA1 := bnext (w0 := w) bgo hb1; have hs1 := hA1.size; clear hb1)
    | (go_at_call 66; refine (c2 _ (hT.go bgo)).mono ?_; rintro r w2 ⟨rfl, hb2⟩; obtain ⟨hc2, hf2⟩ := bcell hb2; have hz2_0 : w.heap.size < w2.heap.size := lt_below hb2 ltg; have hl2_0 := Nat.le_of_lt hz2_0; have hz2_1 : w.heap.size + 1 < w2.heap.size := lt_below hb2 ltg; have hl2_1 := Nat.le_of_lt hz2_1; have hz2_2 : w1.heap.size < w2.heap.size := lt_below hb2 ltg; have hl2_2 := Nat.le_of_lt hz2_2; have hz2_3 : w1.heap.size + 1 < w2.heap.size := lt_below hb2 ltg; have hl2_3 := Nat.le_of_lt hz2_3; have hA2 := bnext (w0 := w) bgo hb2; have hs2 := hA2.size; clear hb2))
  exact bodyPost_ret (by simp only [results, Tryz.results40]; go_simp) rfl ⟨rfl, bgo⟩
end
/-- what a pattern means, and its base -/
theorem unp_v (n : Int) (B : Nat) (w : World) (hT : Tab w) (hB : B < 2 ^ 256) : ∃ c s g x k b, (mE n B = 0 → OV c s g x k b = OV (mD n B).c (mD n B).s (mD n B).g (mD n B).x (mD n B).k ((mX n : Nat) : Int)) ∧
    ∀ W, Tab W → Calls Tryz.prog 40 #[.int .i64 n, A4 B] W fun r w' => r = .returned (.tuple #[OV c s g x k b, .int .i64 (mE n B)]) ∧ Below W.heap.size W w' := by
  by_cases ho : okN n
  · have c1 := fun W hW => ofv_any n W hW
    rw [show infoE n = 0 from if_pos ho] at c1
    by_cases hb : binN n
    · have e1 : mE n B = unE n B := if_pos hb
      have e2 : mD n B = unD n B := if_pos hb
      have e3 : mX n = 2 := if_pos hb
      rw [e1, e2, e3]
      exact ⟨_, _, _, _, _, _, fun _ => rfl, fun W hW => unp_b n B _ _ _ _ _ _ _ _ _ _ _ _ _ _ _ _ W hW c1 (bin_fields hb).2.1 (fun W' h => unpack_any n B W' h hB)⟩
    · have e1 : mE n B = vUE n B := if_neg hb
      have e2 : mD n B = vUD n B := if_neg hb
      have e3 : mX n = 10 := if_neg hb
      have h10 : baseN n = 10 := (not_bin hb).elim (fun h => h.2) (fun h => absurd ho h)
      rw [e1, e2, e3]
      exact ⟨_, _, _, _, _, _, fun _ => rfl, fun W hW => unp_d n B _ _ _ _ _ _ _ _ _ _ _ _ _ _ _ _ W hW c1 h10 _ (fun W' h => dunpk14 n B hB W' h)⟩
  · have c1 := fun W hW => ofv_any n W hW
    rw [show infoE n = 1 from if_neg ho] at c1
    have hb : ¬ binN n := fun h => ho (by unfold binN at h; unfold okN; omega)
    have hd : ¬ goodD n B := fun h => ho (dec_fields h.1).1
    have e1 : mE n B = 1 := (if_neg hb).trans (if_neg hd)
    rw [e1]
    exact ⟨_, _, _, _, _, _, fun h => absurd h (by decide), fun W hW => unp_e n B _ _ _ _ _ _ _ _ _ _ W hW c1⟩
section
variable (f n : Int) (A B : Nat) (c x b : Int) (s g : Bool) (k : Nat) (c' x' b' : Int) (s' g' : Bool) (k' : Nat) (E E' : Int) (w : World) (hT : Tab w)
  (c1 : ∀ W, Tab W → Calls Tryz.prog 40 #[.int .i64 f, A4 A] W fun r w' => r = .returned (.tuple #[OV c s g x k b, .int .i64 E]) ∧ Below W.heap.size W w')
include hT c1
set_option maxHeartbeats 4000000 in
theorem both_e (hE : (E == 0) = false) :
    Calls Tryz.prog 30 #[.int .i64 f, A4 A, .int .i64 n, A4 B] w fun r w' => r = .returned (.tuple #[OV c s g x k b, OV 0 false false 0 0 0, .int .i64 E]) ∧ Below w.heap.size w w' := by
  have hsm := cell_set_map
  have z0 : W4 0 0 = 0 ∧ W4 0 1 = 0 ∧ W4 0 2 = 0 ∧ W4 0 3 = 0 := by unfold W4; decide
  obtain ⟨z0, z1, z2, z3⟩ := z0
  have hcs : OCs 0 false false 0 0 0 = #[.int .i64 0, .bool false, .bool false, .int .i64 0, .int .u64 0, .int .u64 0, .int .u64 0, .int .u64 0, .int .i64 0] := by unfold OCs; rw [z0, z1, z2, z3]
  go_enter Tryz.func30, Tryz.ntmps30
  go_wp2_with (go_at_call 40; refine (c1 _ (hT.go bgo)).mono ?_; rintro r w1 ⟨rfl, hb1⟩; obtain ⟨hc1, hf1⟩ := bcell hb1; have hz1_0 : w.heap.size < w1.heap.size := lt_below hb1 ltg; have hl1_0 := Nat.le_of_lt hz1_0; have hz1_1 : w.heap.size + 1 < w1.heap.size := lt_below hb1 ltg; have hl1_1 := Nat.le_of_lt hz1_1; have hz1_2 : w.heap.size + 1 + 1 < w1.heap.size := lt_below hb1 ltg; have hl1_2 := Nat.le_of_lt hz1_2; have hz1_3 : w.heap.size + 1 + 1 + 1 < w1.heap.size := lt_below hb1 ltg; have hl1_3 := Nat.le_of_lt hz1_3; have hA1 := bnext (w0 := w) bgo hb1; have hs1 := hA1.size; clear hb1)
  refine regBo (b := w.heap.size) (w0 := w) (h := w.heap.size + 1 + 1) (j := w.heap.size + 1 + 1 + 1) (c := c) (s := s) (g := g) (x := x) (k := k) (e := b) (c' := 0) (s' := false) (g' := false) (x' := 0) (k' := 0) (e' := 0) (E := E) rfl rfl rfl rfl bgo (by omega) (by omega) (by omega) ⟨by first | omega | (simp; omega) | simp, rfl, fun i hi => ?_, fun i => by go_simp⟩ ⟨by first | omega | (simp; omega) | simp, rfl, fun i hi => ?_, fun i => by go_simp⟩ ?_
  · rcases nine_cases hi with rfl | rfl | rfl | rfl | rfl | rfl | rfl | rfl | rfl <;> go_simp
  · rw [hcs]
    rcases nine_cases hi with rfl | rfl | rfl | rfl | rfl | rfl | rfl | rfl | rfl <;> go_simp
  intro a' w4 hbe h8 h9 h10 hsz hdf hF2
  have ha := act_of [25, 26, 27, 0, 1, 10] 6 rfl hsz hdf hF2
  rw [ha]
  simp only [List.foldl_cons, List.foldl_nil, Act.put, List.setIfInBounds_toArray, List.set_cons_succ, List.set_cons_zero, h10]
  generalize slot a' 25 = s25
  generalize slot a' 26 = s26
  generalize slot a' 27 = s27
  generalize slot a' 0 = s0
  generalize slot a' 1 = s1
  clear ha h10 hsz hdf hF2
  obtain ⟨l8, _, k8, _⟩ := h8
  obtain ⟨l9, _, k9, _⟩ := h9
  have p0 : w4.cell? ⟨w.heap.size + 1 + 1, 0, none⟩ = some (.int .i64 c) := k8 0 (by decide)
  have p1 : w4.cell? ⟨w.heap.size + 1 + 1, 1, none⟩ = some (.bool s) := k8 1 (by decide)
  have p2 : w4.cell? ⟨w.heap.size + 1 + 1, 2, none⟩ = some (.bool g) := k8 2 (by decide)
  have p3 : w4.cell? ⟨w.heap.size + 1 + 1, 3, none⟩ = some (.int .i64 x) := k8 3 (by decide)
  have p4 : w4.cell? ⟨w.heap.size + 1 + 1, 4, none⟩ = some (.int .u64 (W4 k 0)) := k8 4 (by decide)
  have p5 : w4.cell? ⟨w.heap.size + 1 + 1, 5, none⟩ = some (.int .u64 (W4 k 1)) := k8 5 (by decide)
  have p6 : w4.cell? ⟨w.heap.size + 1 + 1, 6, none⟩ = some (.int .u64 (W4 k 2)) := k8 6 (by decide)
  have p7 : w4.cell? ⟨w.heap.size + 1 + 1, 7, none⟩ = some (.int .u64 (W4 k 3)) := k8 7 (by decide)
  have p8 : w4.cell? ⟨w.heap.size + 1 + 1, 8, none⟩ = some (.int .i64 b) := k8 8 (by decide)
  have q0 : w4.cell? ⟨w.heap.size + 1 + 1 + 1, 0, none⟩ = some (.int .i64 0) := k9 0 (by decide)
  have q1 : w4.cell? ⟨w.heap.size + 1 + 1 + 1, 1, none⟩ = some (.bool false) := k9 1 (by decide)
  have q2 : w4.cell? ⟨w.heap.size + 1 + 1 + 1, 2, none⟩ = some (.bool false) := k9 2 (by decide)
  have q3 : w4.cell? ⟨w.heap.size + 1 + 1 + 1, 3, none⟩ = some (.int .i64 0) := k9 3 (by decide)
  have q4 : w4.cell? ⟨w.heap.size + 1 + 1 + 1, 4, none⟩ = some (.int .u64 (W4 0 0)) := k9 4 (by decide)
  have q5 : w4.cell? ⟨w.heap.size + 1 + 1 + 1, 5, none⟩ = some (.int .u64 (W4 0 1)) := k9 5 (by decide)
  have q6 : w4.cell? ⟨w.heap.size + 1 + 1 + 1, 6, none⟩ = some (.int .u64 (W4 0 2)) := k9 6 (by decide)
  have q7 : w4.cell? ⟨w.heap.size + 1 + 1 + 1, 7, none⟩ = some (.int .u64 (W4 0 3)) := k9 7 (by decide)
  have q8 : w4.cell? ⟨w.heap.size + 1 + 1 + 1, 8, none⟩ = some (.int .i64 0) := k9 8 (by decide)
  clear k8 k9
  go_wp2
  exact bodyPost_ret (by simp only [results, Tryz.results30]; go_simp) rfl ⟨rfl, bgo⟩
variable (c2 : ∀ W, Tab W → Calls Tryz.prog 40 #[.int .i64 n, A4 B] W fun r w' => r = .returned (.tuple #[OV c' s' g' x' k' b', .int .i64 E']) ∧ Below W.heap.size W w')
include c2
set_option maxHeartbeats 4000000 in
theorem both_k (hE : E = 0) :
    Calls Tryz.prog 30 #[.int .i64 f, A4 A, .int .i64 n, A4 B] w fun r w' => r = .returned (.tuple #[OV c s g x k b, OV c' s' g' x' k' b', .int .i64 E']) ∧ Below w.heap.size w w' := by
  subst hE
  have hsm := cell_set_map
  go_enter Tryz.func30, Tryz.ntmps30
  go_wp2_with (first
    | (have := hA1; go_at_call 40; refine (c2 _ (hT.go bgo)).mono ?_; rintro r w2 ⟨rfl, hb2⟩; obtain ⟨hc2, hf2⟩ := bcell hb2; have hz2_0 : w.heap.size < w2.heap.size := lt_below hb2 ltg; have hl2_0 := Nat.le_of_lt hz2_0; have hz2_1 : w.heap.size + 1 < w2.heap.size := lt_below hb2 ltg; have hl2_1 := Nat.le_of_lt hz2_1; have hz2_2 : w.heap.size + 1 + 1 < w2.heap.size := lt_below hb2 ltg; have hl2_2 := Nat.le_of_lt hz2_2; have hz2_3 : w.heap.size + 1 + 1 + 1 < w2.heap.size := lt_below hb2 ltg; have hl2_3 := Nat.le_of_lt hz2_3; have hA2 := bnext (w0 := w) bgo hb2; have hs2 := hA2.size; clear hb2)
    | (go_at_call 40; refine (c1 _ (hT.go bgo)).mono ?_; rintro r w1 ⟨rfl, hb1⟩; obtain ⟨hc1, hf1⟩ := bcell hb1; have hz1_0 : w.heap.size < w1.heap.size := lt_below hb1 ltg; have hl1_0 := Nat.le_of_lt hz1_0; have hz1_1 : w.heap.size + 1 < w1.heap.size := lt_below hb1 ltg; have hl1_1 := Nat.le_of_lt hz1_1; have hz1_2 : w.heap.size + 1 + 1 < w1.heap.size := lt_below hb1 ltg; have hl1_2 := Nat.le_of_lt hz1_2; have hz1_3 : w.heap.size + 1 + 1 + 1 < w1.heap.size := lt_below hb1 ltg; have hl1_3 := Nat.le_of_lt hz1_3; have hA1 := bnext (w0 := w) bgo hb1; have hs1 := hA1.size; clear hb1))
  refine regBo (b := w.heap.size) (w0 := w) (h := w.heap.size + 1 + 1) (j := w.heap.size + 1 + 1 + 1) (c := c) (s := s) (g := g) (x := x) (k := k) (e := b) (c' := c') (s' := s') (g' := g') (x' := x') (k' := k') (e' := b') (E := E') rfl rfl rfl rfl bgo (by omega) (by omega) (by omega) ⟨by first | omega | (simp; omega) | simp, rfl, fun i hi => ?_, fun i => by go_simp⟩ ⟨by first | omega | (simp; omega) | simp, rfl, fun i hi => ?_, fun i => by go_simp⟩ ?_
  · rcases nine_cases hi with rfl | rfl | rfl | rfl | rfl | rfl | rfl | rfl | rfl <;> go_simp
  · rcases nine_cases hi with rfl | rfl | rfl | rfl | rfl | rfl | rfl | rfl | rfl <;> go_simp
  intro a' w4 hbe h8 h9 h10 hsz hdf hF2
  have ha := act_of [25, 26, 27, 0, 1, 10] 6 rfl hsz hdf hF2
  rw [ha]
  simp only [List.foldl_cons, List.foldl_nil, Act.put, List.setIfInBounds_toArray, List.set_cons_succ, List.set_cons_zero, h10]
  generalize slot a' 25 = s25
  generalize slot a' 26 = s26
  generalize slot a' 27 = s27
  generalize slot a' 0 = s0
  generalize slot a' 1 = s1
  clear ha h10 hsz hdf hF2
  obtain ⟨l8, _, k8, _⟩ := h8
  obtain ⟨l9, _, k9, _⟩ := h9
  have p0 : w4.cell? ⟨w.heap.size + 1 + 1, 0, none⟩ = some (.int .i64 c) := k8 0 (by decide)
  have p1 : w4.cell? ⟨w.heap.size + 1 + 1, 1, none⟩ = some (.bool s) := k8 1 (by decide)
  have p2 : w4.cell? ⟨w.heap.size + 1 + 1, 2, none⟩ = some (.bool g) := k8 2 (by decide)
  have p3 : w4.cell? ⟨w.heap.size + 1 + 1, 3, none⟩ = some (.int .i64 x) := k8 3 (by decide)
  have p4 : w4.cell? ⟨w.heap.size + 1 + 1, 4, none⟩ = some (.int .u64 (W4 k 0)) := k8 4 (by decide)
  have p5 : w4.cell? ⟨w.heap.size + 1 + 1, 5, none⟩ = some (.int .u64 (W4 k 1)) := k8 5 (by decide)
  have p6 : w4.cell? ⟨w.heap.size + 1 + 1, 6, none⟩ = some (.int .u64 (W4 k 2)) := k8 6 (by decide)
  have p7 : w4.cell? ⟨w.heap.size + 1 + 1, 7, none⟩ = some (.int .u64 (W4 k 3)) := k8 7 (by decide)
  have p8 : w4.cell? ⟨w.heap.size + 1 + 1, 8, none⟩ = some (.int .i64 b) := k8 8 (by decide)
  have q0 : w4.cell? ⟨w.heap.size + 1 + 1 + 1, 0, none⟩ = some (.int .i64 c') := k9 0 (by decide)
  have q1 : w4.cell? ⟨w.heap.size + 1 + 1 + 1, 1, none⟩ = some (.bool s') := k9 1 (by decide)
  have q2 : w4.cell? ⟨w.heap.size + 1 + 1 + 1, 2, none⟩ = some (.bool g') := k9 2 (by decide)
  have q3 : w4.cell? ⟨w.heap.size + 1 + 1 + 1, 3, none⟩ = some (.int .i64 x') := k9 3 (by decide)
  have q4 : w4.cell? ⟨w.heap.size + 1 + 1 + 1, 4, none⟩ = some (.int .u64 (W4 k' 0)) := k9 4 (by decide)
  have q5 : w4.cell? ⟨w.heap.size + 1 + 1 + 1, 5, none⟩ = some (.int .u64 (W4 k' 1)) := k9 5 (by decide)
  have q6 : w4.cell? ⟨w.heap.size + 1 + 1 + 1, 6, none⟩ = some (.int .u64 (W4 k' 2)) := k9 6 (by decide)
  have q7 : w4.cell? ⟨w.heap.size + 1 + 1 + 1, 7, none⟩ = some (.int .u64 (W4 k' 3)) := k9 7 (by decide)
  have q8 : w4.cell? ⟨w.heap.size + 1 + 1 + 1, 8, none⟩ = some (.int .i64 b') := k9 8 (by decide)
  clear k8 k9
  go_wp2
  exact bodyPost_ret (by simp only [results, Tryz.results30]; go_simp) rfl ⟨rfl, bgo⟩
end
end
section
/-- a datum's cells -/
abbrev zd : Array Value := #[.int .i64 0, .bool false, .bool false, .int .i64 0, .int .u64 0, .int .u64 0, .int .u64 0, .int .u64 0]
theorem below_cellsD {n b : Nat} {a : World} (hb : n ≤ b) : ∀ (vs : List Value) (o : Nat) (W : World), Below n a W → Below n a (W.setCells b o vs)
  | [], _, _, h => h
  | v :: r, o, W, h => below_cellsD hb r (o + 1) _ (h.setCell hb v)
/-- a block that holds a datum -/
def D8 (g : Nat) (cs : Array Value) (w : World) : Prop := g < w.heap.size ∧ cs.size = 8 ∧ (∀ i, i < 8 → w.cell? ⟨g, i, none⟩ = cs[i]?) ∧ ∀ i, w.frozen? ⟨g, i, none⟩ = false
theorem D8.next {g : Nat} {cs : Array Value} {w w' : World} (h : D8 g cs w) (hb : Below w.heap.size w w') : D8 g cs w' :=
  ⟨Nat.lt_of_lt_of_le h.1 hb.size, h.2.1, fun i hi => (hb.cell (p := ⟨g, i, none⟩) h.1).trans (h.2.2.1 i hi), fun i => (hb.frozen (p := ⟨g, i, none⟩) h.1).trans (h.2.2.2 i)⟩
theorem D8.new (w : World) : D8 w.heap.size zd (w.alloc (.cells zd 34)) := by
  refine ⟨by simp, rfl, fun i hi => ?_, fun i => ?_⟩
  · rw [World.cell?_alloc_new]
  · simp [go_sem]
theorem D8.put {g : Nat} {cs cs' : Array Value} {w : World} (h : D8 g cs w) (hs : cs'.size = 8) : D8 g cs' (w.setCells g 0 cs'.toList) := by
  have hin := World.cell?_setCells_in g cs'.toList 0 w (fun j hj => by
    rw [Nat.zero_add, h.2.2.1 j (by simpa [hs] using hj), Array.getElem?_eq_getElem (by rw [h.2.1]; simpa [hs] using hj)]; rfl)
  refine ⟨Nat.lt_of_lt_of_le h.1 (below_cellsD (n := 0) (Nat.zero_le _) _ _ _ (Below.refl 0 w)).size, hs, fun i hi => ?_, fun i => ?_⟩
  · have := hin i (by simpa [hs] using hi)
    rw [Nat.zero_add] at this
    rw [this, Array.getElem?_eq_getElem (by rw [hs]; exact hi)]
    simp
  · rw [World.frozen?_setCells]; exact h.2.2.2 i
attribute [local irreducible] W4 Nt NT
section
variable {a : Act} {w : World} {K : Act → World → Prop} {Q : Exit → Act → World → Prop} {d p q : Nat} {ty : TypeId} {pos : String} {after : Array Edge} {gd : Option (Nat × Bool)}
end
/-- what stands while the statement is under way -/
def M7 (ws : World) (cv : Array Value) (L : Nat → Prop) (f : Nat → Value) (w : World) : Prop :=
  Below ws.heap.size ws w ∧ (L 6 → L 10 ∨ Nt 1 1 (f 61) w) ∧ (L 15 → ∃ g cs, f 14 = .pointer (some ⟨g, 0, none⟩) ∧ ws.heap.size ≤ g ∧ D8 g cs w ∧ (L 16 → cs = cv))
theorem M7.step {ws w : World} {cv : Array Value} {k t : Nat} {L : Nat → Prop} {f : Nat → Value} {v : Value} (h : M7 ws cv L f w) (h1 : t ≠ 61) (h2 : t ≠ 14) (h3 : k ≠ 6) (h4 : k ≠ 15) (h5 : k ≠ 16) (h6 : k ≠ 10) : M7 ws cv (fun j => L j ∨ j = k) (fun u => if some t = some u then v else f u) w := by
  obtain ⟨a1, a2, a3⟩ := h
  have e61 : (if some t = some 61 then v else f 61) = f 61 := if_neg (fun e => h1 (Option.some.inj e))
  have e14 : (if some t = some 14 then v else f 14) = f 14 := if_neg (fun e => h2 (Option.some.inj e))
  refine ⟨a1, fun h => ?_, fun h => ?_⟩
  · rcases a2 (h.resolve_right (fun e => h3 e.symm)) with q | q
    · exact Or.inl (Or.inl q)
    · right; show Nt 1 1 (if some t = some 61 then v else f 61) w; rw [e61]; exact q
  · obtain ⟨g, cs, b1, b2, b3, b4⟩ := a3 (h.resolve_right (fun e => h4 e.symm))
    exact ⟨g, cs, e14.trans b1, b2, b3, fun h => b4 (h.resolve_right (fun e => h5 e.symm))⟩
end
end Go.Proofs.YtgknbdehlmlipaaGreatDoor
