/-
  Texts that the proof leans on.
-/
import Derived.Test.YtpemdcnneabbfaaDoorJ33
import Derived.Test.YtpemdcnneabbfaaDoorJ32
import Derived.Test.YtpemdcnneabbfaaDoorJ26
import Derived.Deep.Cut
import Derived.Deep.CutRange
import Derived.Test.YtpemdcnneabbfaaDoorJ18
import Derived.Test.YtpemdcnneabbfaaDoorJ15
import Derived.Test.YtpemdcnneabbfaaDoorJ7
import Derived.Test.YtpemdcnneabbfaaDoorJ14
import Derived.Test.YtpemdcnneabbfaaDoorJ11
import Derived.Test.YtpemdcnneabbfaaDoorJ8
import Derived.Deep.RegionWith
import Derived.Test.YtpemdcnneabbfaaDoorJ29
import Derived.Test.YtpemdcnneabbfaaDoorJ24
import Derived.Test.YtpemdcnneabbfaaDoorJ28
import Derived.StillTail
import Derived.Below
import Derived.WalkKit
import Derived.Test.YtpemdcnneabbfaaDoorJ20
import Derived.Test.YtpemdcnneabbfaaDoorJ21
import Derived.Test.YtpemdcnneabbfaaDoorJ22
import Derived.Test.YtpemdcnneabbfaaDoorJ6
import Derived.Test.YtpemdcnneabbfaaDoorJ12
import Derived.Test.YtpemdcnneabbfaaDoorJ3
import Derived.Test.YtpemdcnneabbfaaDoorJ34
import Derived.Laws.FloatArith
import Derived.Laws.Cover2
import Derived.RegionTactic
import Derived.ChangeAlike
import Derived.BigRegion
import Derived.Laws.Strings2
import Derived.Lib.AppendStr
import Derived.Lib.Builder
import Derived.Deep.AppendLies
import Derived.Laws.BytesArg
import Derived.Deep.MidRow
import Derived.Shelf.SlicesE.Reverse
import Derived.Test.YtpemdcnneabbfaaDoorJ9
import Derived.Test.YtpemdcnneabbfaaDoorJ5
import Derived.Test.YtpemdcnneabbfaaDoorJ10
set_option linter.unusedVariables false
set_option linter.unusedSectionVars false
set_option linter.unusedSimpArgs false
set_option maxRecDepth 20000
namespace Go.Proofs.YtpemdcnneabbfaaDoor
open Go.RowKit
theorem tnE_find {N D : Nat} (lo : Int) (h : tnG N D lo) : ∀ k : Nat, ¬ tnG N D (lo + k) → ∃ E, TnE N D E
  | 0, h' => absurd (by simpa using h) h'
  | k + 1, h' => by
    by_cases hk : tnG N D (lo + k)
    · exact ⟨lo + k, hk, by rw [show lo + (k : Int) + 1 = lo + ((k + 1 : Nat) : Int) by omega]; exact h'⟩
    · exact tnE_find lo h k hk
theorem tnE_ex {N D : Nat} (hN : 0 < N) (hD : 0 < D) : ∃ E, TnE N D E := by
  refine tnE_find (-(D : Int)) ?_ (N + D) ?_
  · unfold tnG
    rw [show (-(D : Int)).toNat = 0 by omega, Int.neg_neg, Int.toNat_natCast, Nat.pow_zero, Nat.mul_one]
    have h1 : D < 10 ^ D := Nat.lt_pow_self (by decide)
    exact Nat.le_trans (Nat.le_of_lt h1) (Nat.le_mul_of_pos_left _ hN)
  · rw [show -(D : Int) + ((N + D : Nat) : Int) = (N : Int) by omega]
    unfold tnG
    rw [show (-(N : Int)).toNat = 0 by omega, Int.toNat_natCast, Nat.pow_zero, Nat.mul_one]
    have h1 : N < 10 ^ N := Nat.lt_pow_self (by decide)
    have h2 : 10 ^ N ≤ D * 10 ^ N := Nat.le_mul_of_pos_left _ hD
    omega
/-- the exponent as the document takes it -/
def clT (x : Int) : Int := min (max x (-20000)) 20000
/-- the exponent of a fraction's first digit -/
noncomputable def tnX (N D : Nat) : Int := open Classical in if h : ∃ E, TnE N D E then Classical.choose h else 0
theorem tnX_is {N D : Nat} (hN : 0 < N) (hD : 0 < D) : TnE N D (tnX N D) := by
  have h := tnE_ex hN hD
  unfold tnX
  rw [dif_pos h]
  exact Classical.choose_spec h
/-- what decround answers -/
def rqE (n d : Int) (N D : Nat) : Int := if decN n ∧ knB d ∧ D ≠ 0 then (if 25600 < bl N ∨ 25600 < bl D then 4 else 0) else 1
noncomputable def rqD (n d : Int) (s : Bool) (N D : Nat) (x y : Int) : Dat :=
  if rqE n d N D = 0 then (if N = 0 then ⟨1, s, false, min (max y (fD n).l) (fD n).m, 0⟩ else dkD (fD n) d s (N * 10 ^ (clT x).toNat) (D * 10 ^ (-(clT x)).toNat) (tnX (N * 10 ^ (clT x).toNat) (D * 10 ^ (-(clT x)).toNat)) y) else ⟨0, false, false, 0, 0⟩
noncomputable def rqF (n d : Int) (s : Bool) (N D : Nat) (x : Int) : Int :=
  if rqE n d N D = 0 then (if N = 0 then 0 else dkF (fD n) d s (N * 10 ^ (clT x).toNat) (D * 10 ^ (-(clT x)).toNat) (tnX (N * 10 ^ (clT x).toNat) (D * 10 ^ (-(clT x)).toNat))) else 0
section
theorem tnX_eq {N D : Nat} {E : Int} (hN : 0 < N) (hD : 0 < D) (h : TnE N D E) : tnX N D = E := (tnX_is hN hD).only h
theorem third : rqD 7 0 false 1 3 0 0 = ⟨1, false, false, -7, 3333333⟩ ∧ rqF 7 0 false 1 3 0 = 8 ∧ rqE 7 0 1 3 = 0 := by
  have e0 : rqE 7 0 1 3 = 0 := by
    have b1 : bl 1 ≤ 2 := bl_le.2 (by decide)
    have b3 : bl 3 ≤ 2 := bl_le.2 (by decide)
    unfold rqE
    rw [if_pos ⟨by unfold decN; omega, by unfold knB; omega, by decide⟩, if_neg (by omega)]
  have eX : tnX (1 * 10 ^ (clT 0).toNat) (3 * 10 ^ (-(clT 0)).toNat) = -1 := tnX_eq (by decide) (by decide) ⟨by decide, by decide⟩
  refine ⟨?_, ?_, e0⟩
  · unfold rqD
    rw [if_pos e0, if_neg (by decide), eX]
    have h1 : (dkD (fD 7) 0 false (1 * 10 ^ (clT 0).toNat) (3 * 10 ^ (-(clT 0)).toNat) (-1) 0).c = 1 ∧ (dkD (fD 7) 0 false (1 * 10 ^ (clT 0).toNat) (3 * 10 ^ (-(clT 0)).toNat) (-1) 0).s = false ∧ (dkD (fD 7) 0 false (1 * 10 ^ (clT 0).toNat) (3 * 10 ^ (-(clT 0)).toNat) (-1) 0).g = false ∧ (dkD (fD 7) 0 false (1 * 10 ^ (clT 0).toNat) (3 * 10 ^ (-(clT 0)).toNat) (-1) 0).x = -7 ∧ (dkD (fD 7) 0 false (1 * 10 ^ (clT 0).toNat) (3 * 10 ^ (-(clT 0)).toNat) (-1) 0).k = 3333333 := by decide +kernel
    generalize dkD (fD 7) 0 false (1 * 10 ^ (clT 0).toNat) (3 * 10 ^ (-(clT 0)).toNat) (-1) 0 = R at h1 ⊢
    obtain ⟨c, s, g, x, k⟩ := R
    simp only at h1
    obtain ⟨rfl, rfl, rfl, rfl, rfl⟩ := h1
    rfl
  · unfold rqF
    rw [if_pos e0, if_neg (by decide), eX]
    decide +kernel
attribute [local irreducible] W4 Nt
end
/-- a word of the program's integers -/
def i6 (x : Int) : Prop := -9223372036854775808 ≤ x ∧ x ≤ 9223372036854775807
section
theorem dat_box {w0 w : World} {c x : Int} {s g : Bool} {k : Nat} {t : TypeId} (hk : k < 2 ^ 256)
    (hb : Below (w0.alloc (.cells #[.int .i64 c, .bool s, .bool g, .int .i64 x, .int .u64 (W4 k 0), .int .u64 (W4 k 1), .int .u64 (W4 k 2), .int .u64 (W4 k 3)] t)).heap.size (w0.alloc (.cells #[.int .i64 c, .bool s, .bool g, .int .i64 x, .int .u64 (W4 k 0), .int .u64 (W4 k 1), .int .u64 (W4 k 2), .int .u64 (W4 k 3)] t)) w) :
    Nt 4 k (.slice (some ⟨w0.heap.size, 4, none⟩) 4 4) w := by
  have hs : w0.heap.size < (w0.alloc (.cells #[.int .i64 c, .bool s, .bool g, .int .i64 x, .int .u64 (W4 k 0), .int .u64 (W4 k 1), .int .u64 (W4 k 2), .int .u64 (W4 k 3)] t)).heap.size := by simp
  refine ⟨_, 4, 4, lowW (W4 k) 4, rfl, Nat.le_refl _, ⟨Nat.le_refl _, by unfold maxLen; omega, ?_, ?_, Or.inr ⟨w0.heap.size, 4, rfl, Nat.lt_of_lt_of_le hs hb.size, ?_⟩⟩, ?_⟩
  · intro i
    by_cases hi : i < 4
    · rw [lowW_lt hi]; exact W4_words k i
    · rw [show lowW (W4 k) 4 i = 0 from if_neg hi]; exact ⟨Int.le_refl _, by decide⟩
  · intro i hi
    exact if_neg (by omega)
  · intro i hi
    rw [lowW_lt hi, hb.cell (p := ⟨w0.heap.size, 4 + i, none⟩) hs]
    have : i = 0 ∨ i = 1 ∨ i = 2 ∨ i = 3 := by omega
    rw [World.cell?_alloc_new]
    rcases this with rfl | rfl | rfl | rfl <;> rfl
  · rw [val_congr (x := lowW (W4 k) 4) (y := W4 k) 4 (fun i hi => lowW_lt hi), W4_val4 hk]
attribute [local irreducible] W4 Nt
end
section
attribute [local irreducible] W4 Nz Nt NT
section
variable (t ba d : Int) (num wi pr ex le mo pa : Int) (nm : ByteArray) (de : Bool) (w : World) (hT : Tab w)
include hT
set_option maxHeartbeats 2000000 in
theorem stg_e (b0 : Int)
    (c2 : ∀ W, Tab W → Calls Tryd.prog 32 #[.int .i64 t] W fun r w' => r = .returned (.tuple #[.agg #[.int .i64 num, .string nm, .int .i64 b0, .int .i64 wi, .int .i64 pr, .int .i64 ex, .int .i64 le, .int .i64 mo, .int .i64 pa, .bool de], .int .i64 1]) ∧ Below W.heap.size W w') :
    Calls Tryd.prog 21 #[.int .i64 t, .int .i64 ba, .int .i64 d] w fun r w' => r = .returned (.tuple #[IZ, .int .i64 1]) ∧ Below w.heap.size w w' := by
  have hsm := cell_set_map
  go_enter Tryd.func21, Tryd.ntmps21
  go_wp2_with (go_at_call 32; refine (c2 _ (hT.go bgo)).mono ?_; rintro r w1 ⟨rfl, hb1⟩; obtain ⟨hc1, hf1⟩ := bcell hb1; have hz1_0 : w.heap.size < w1.heap.size := lt_below hb1 ltg; have hl1_0 := Nat.le_of_lt hz1_0; have hA1 := bnext (w0 := w) bgo hb1; have hs1 := hA1.size; clear hb1)
  exact bodyPost_ret (v := .tuple #[IZ, .int .i64 1]) (by simp only [results, Tryd.results21]; go_simp) rfl ⟨rfl, bgo⟩
set_option maxHeartbeats 2000000 in
theorem stg_b (b0 : Int) (hba : (b0 != ba) = true)
    (c2 : ∀ W, Tab W → Calls Tryd.prog 32 #[.int .i64 t] W fun r w' => r = .returned (.tuple #[.agg #[.int .i64 num, .string nm, .int .i64 b0, .int .i64 wi, .int .i64 pr, .int .i64 ex, .int .i64 le, .int .i64 mo, .int .i64 pa, .bool de], .int .i64 0]) ∧ Below W.heap.size W w') :
    Calls Tryd.prog 21 #[.int .i64 t, .int .i64 ba, .int .i64 d] w fun r w' => r = .returned (.tuple #[IZ, .int .i64 1]) ∧ Below w.heap.size w w' := by
  have hsm := cell_set_map
  go_enter Tryd.func21, Tryd.ntmps21
  go_wp2_with (go_at_call 32; refine (c2 _ (hT.go bgo)).mono ?_; rintro r w1 ⟨rfl, hb1⟩; obtain ⟨hc1, hf1⟩ := bcell hb1; have hz1_0 : w.heap.size < w1.heap.size := lt_below hb1 ltg; have hl1_0 := Nat.le_of_lt hz1_0; have hA1 := bnext (w0 := w) bgo hb1; have hs1 := hA1.size; clear hb1)
  exact bodyPost_ret (v := .tuple #[IZ, .int .i64 1]) (by simp only [results, Tryd.results21]; go_simp) rfl ⟨rfl, bgo⟩
variable (c2 : ∀ W, Tab W → Calls Tryd.prog 32 #[.int .i64 t] W fun r w' => r = .returned (.tuple #[.agg #[.int .i64 num, .string nm, .int .i64 ba, .int .i64 wi, .int .i64 pr, .int .i64 ex, .int .i64 le, .int .i64 mo, .int .i64 pa, .bool de], .int .i64 0]) ∧ Below W.heap.size W w')
include c2
set_option maxHeartbeats 2000000 in
theorem stg_k (c3 : ∀ W, Calls Tryd.prog 34 #[.int .i64 d] W fun r w' => r = .returned (.bool false) ∧ W = w') :
    Calls Tryd.prog 21 #[.int .i64 t, .int .i64 ba, .int .i64 d] w fun r w' => r = .returned (.tuple #[IZ, .int .i64 1]) ∧ Below w.heap.size w w' := by
  have hsm := cell_set_map
  have hbb : (ba != ba) = false := bne_self_eq_false ba
  go_enter Tryd.func21, Tryd.ntmps21
  go_wp2_with (first
    | (go_at_call 32; refine (c2 _ (hT.go bgo)).mono ?_; rintro r w1 ⟨rfl, hb1⟩; obtain ⟨hc1, hf1⟩ := bcell hb1; have hz1_0 : w.heap.size < w1.heap.size := lt_below hb1 ltg; have hl1_0 := Nat.le_of_lt hz1_0; have hA1 := bnext (w0 := w) bgo hb1; have hs1 := hA1.size; clear hb1)
    | (go_at_call 34; refine (c3 _).mono ?_; rintro r w2 ⟨rfl, rfl⟩))
  exact bodyPost_ret (v := .tuple #[IZ, .int .i64 1]) (by simp only [results, Tryd.results21]; go_simp) rfl ⟨rfl, bgo⟩
set_option maxHeartbeats 2000000 in
theorem stg_y (c3 : ∀ W, Calls Tryd.prog 34 #[.int .i64 d] W fun r w' => r = .returned (.bool true) ∧ W = w') :
    Calls Tryd.prog 21 #[.int .i64 t, .int .i64 ba, .int .i64 d] w fun r w' => r = .returned (.tuple #[.agg #[.int .i64 num, .string nm, .int .i64 ba, .int .i64 wi, .int .i64 pr, .int .i64 ex, .int .i64 le, .int .i64 mo, .int .i64 pa, .bool de], .int .i64 0]) ∧ Below w.heap.size w w' := by
  have hsm := cell_set_map
  have hbb : (ba != ba) = false := bne_self_eq_false ba
  go_enter Tryd.func21, Tryd.ntmps21
  go_wp2_with (first
    | (go_at_call 32; refine (c2 _ (hT.go bgo)).mono ?_; rintro r w1 ⟨rfl, hb1⟩; obtain ⟨hc1, hf1⟩ := bcell hb1; have hz1_0 : w.heap.size < w1.heap.size := lt_below hb1 ltg; have hl1_0 := Nat.le_of_lt hz1_0; have hA1 := bnext (w0 := w) bgo hb1; have hs1 := hA1.size; clear hb1)
    | (go_at_call 34; refine (c3 _).mono ?_; rintro r w2 ⟨rfl, rfl⟩))
  exact bodyPost_ret (v := .tuple #[.agg #[.int .i64 num, .string nm, .int .i64 ba, .int .i64 wi, .int .i64 pr, .int .i64 ex, .int .i64 le, .int .i64 mo, .int .i64 pa, .bool de], .int .i64 0]) (by simp only [results, Tryd.results21]; go_simp) rfl ⟨rfl, bgo⟩
end
/-- what is known of a format, as a value -/
abbrev InfV (t : Int) : Value := .agg #[.int .i64 (numN t), .string (nameN t), .int .i64 (baseN t), .int .i64 (widthN t), .int .i64 (precN t), .int .i64 (expN t), .int .i64 (leastN t), .int .i64 (mostN t), .int .i64 (payN t), .bool (denseN t)]
theorem starg_y {t ba d : Int} (w : World) (hT : Tab w) (h1 : okN t) (h2 : baseN t = ba) (h3 : knB d) :
    Calls Tryd.prog 21 #[.int .i64 t, .int .i64 ba, .int .i64 d] w fun r w' => r = .returned (.tuple #[InfV t, .int .i64 0]) ∧ Below w.heap.size w w' := by
  have c2 := fun W h => ofv_any t W h
  have c3 := fun W => known_any d W
  rw [decide_eq_true h3] at c3
  rw [show infoE t = 0 from if_pos h1, h2] at c2
  unfold InfV
  rw [h2]
  exact stg_y t ba d _ _ _ _ _ _ _ _ _ w hT c2 c3
theorem starg_n {t ba d : Int} (w : World) (hT : Tab w) (h : ¬ (okN t ∧ baseN t = ba ∧ knB d)) :
    Calls Tryd.prog 21 #[.int .i64 t, .int .i64 ba, .int .i64 d] w fun r w' => r = .returned (.tuple #[IZ, .int .i64 1]) ∧ Below w.heap.size w w' := by
  have c2 := fun W h => ofv_any t W h
  have c3 := fun W => known_any d W
  by_cases h1 : okN t
  · rw [show infoE t = 0 from if_pos h1] at c2
    by_cases h2 : baseN t = ba
    · rw [h2] at c2
      by_cases h3 : knB d
      · exact absurd ⟨h1, h2, h3⟩ h
      · rw [decide_eq_false h3] at c3
        exact stg_k t ba d _ _ _ _ _ _ _ _ _ w hT c2 c3
    · exact stg_b t ba d _ _ _ _ _ _ _ _ _ w hT _ (by rw [bne_iff_ne]; exact h2) c2
  · rw [show infoE t = 1 from if_neg h1] at c2
    exact stg_e t ba d _ _ _ _ _ _ _ _ _ w hT _ c2
section
variable (num ba wi pr ex le mo pa c x : Int) (nm : ByteArray) (de s g : Bool) (k Q : Nat) (hk : k < 2 ^ 256) (w : World) (cm : Int)
  (c61 : ∀ W, Calls Tryd.prog 36 #[.int .i64 ba, .int .i64 pa] W fun r w' => ∃ v, r = .returned (.tuple #[v, .int .i64 0]) ∧ Nt 2001 Q v w' ∧ Below W.heap.size W w')
  (c64 : ∀ W v u, Nt 4 k v W → Nt 2001 Q u W → Calls Tryd.prog 37 #[v, u] W fun r w' => r = .returned (.int .i64 cm) ∧ Below W.heap.size W w')
include hk c61 c64
set_option maxHeartbeats 2000000 in
theorem scnv_l (h : cm < 0) :
    Calls Tryd.prog 23 #[.agg #[.int .i64 num, .string nm, .int .i64 ba, .int .i64 wi, .int .i64 pr, .int .i64 ex, .int .i64 le, .int .i64 mo, .int .i64 pa, .bool de], DV c s g x k] w fun r w' => r = .returned (.tuple #[DV c s false x k, .int .i64 (if g then 1 else 0)]) ∧ Below w.heap.size w w' := by
  have hbx := fun W hW => dat_box (w0 := w.alloc (.cells #[.int .i64 num, .string nm, .int .i64 ba, .int .i64 wi, .int .i64 pr, .int .i64 ex, .int .i64 le, .int .i64 mo, .int .i64 pa, .bool de] 55)) (w := W) (c := c) (s := s) (g := g) (x := x) (t := 49) hk hW
  have h' : ¬ 0 ≤ cm := by omega
  have h'' : decide (0 ≤ cm) = false := decide_eq_false h'
  have hsm := cell_set_map
  cases g
  all_goals (
    go_enter Tryd.func23, Tryd.ntmps23
    go_wp2_with (first
      | (go_at_call 36; refine (c61 _).mono ?_; rintro r w1 ⟨v1, rfl, hv1, hb1⟩; have hv0 := hbx _ (bnx (below1 _ _) hb1); obtain ⟨hc1, hf1⟩ := bcell hb1; have hz1_0 : w.heap.size < w1.heap.size := lt_below hb1 ltg; have hl1_0 := Nat.le_of_lt hz1_0; have hz1_1 : w.heap.size + 1 < w1.heap.size := lt_below hb1 ltg; have hl1_1 := Nat.le_of_lt hz1_1; have hz1_2 : w.heap.size + 1 + 1 < w1.heap.size := lt_below hb1 ltg; have hl1_2 := Nat.le_of_lt hz1_2; have hA1 := bnext (w0 := w) bgo hb1; have hs1 := hA1.size; clear hb1)
      | (go_at_call 37; refine (c64 _ _ _ (by simpa using hv0) hv1).mono ?_; rintro r w2 ⟨rfl, hb2⟩; obtain ⟨hc2, hf2⟩ := bcell hb2; have hz2_0 : w.heap.size < w2.heap.size := lt_below hb2 ltg; have hl2_0 := Nat.le_of_lt hz2_0; have hz2_1 : w.heap.size + 1 < w2.heap.size := lt_below hb2 ltg; have hl2_1 := Nat.le_of_lt hz2_1; have hz2_2 : w.heap.size + 1 + 1 < w2.heap.size := lt_below hb2 ltg; have hl2_2 := Nat.le_of_lt hz2_2; have hA2 := bnext (w0 := w) bgo hb2; have hs2 := hA2.size; clear hb2))
    exact bodyPost_ret (by simp only [results, Tryd.results23]; go_simp) rfl ⟨rfl, bgo⟩)
set_option maxHeartbeats 2000000 in
theorem scnv_g (h : 0 ≤ cm) :
    Calls Tryd.prog 23 #[.agg #[.int .i64 num, .string nm, .int .i64 ba, .int .i64 wi, .int .i64 pr, .int .i64 ex, .int .i64 le, .int .i64 mo, .int .i64 pa, .bool de], DV c s g x k] w fun r w' => r = .returned (.tuple #[DV c s false x 0, .int .i64 (if g then 1 else 0)]) ∧ Below w.heap.size w w' := by
  have hbx := fun W hW => dat_box (w0 := w.alloc (.cells #[.int .i64 num, .string nm, .int .i64 ba, .int .i64 wi, .int .i64 pr, .int .i64 ex, .int .i64 le, .int .i64 mo, .int .i64 pa, .bool de] 55)) (w := W) (c := c) (s := s) (g := g) (x := x) (t := 49) hk hW
  have h'' : decide (0 ≤ cm) = true := decide_eq_true h
  have hz : DV c s false x 0 = .agg #[.int .i64 c, .bool s, .bool false, .int .i64 x, .int .u64 0, .int .u64 0, .int .u64 0, .int .u64 0] := by unfold DV; simp only [W4_zero]
  rw [hz]
  clear hz
  have hsm := cell_set_map
  cases g
  all_goals (
    go_enter Tryd.func23, Tryd.ntmps23
    go_wp2_with (first
      | (go_at_call 36; refine (c61 _).mono ?_; rintro r w1 ⟨v1, rfl, hv1, hb1⟩; have hv0 := hbx _ (bnx (below1 _ _) hb1); obtain ⟨hc1, hf1⟩ := bcell hb1; have hz1_0 : w.heap.size < w1.heap.size := lt_below hb1 ltg; have hl1_0 := Nat.le_of_lt hz1_0; have hz1_1 : w.heap.size + 1 < w1.heap.size := lt_below hb1 ltg; have hl1_1 := Nat.le_of_lt hz1_1; have hz1_2 : w.heap.size + 1 + 1 < w1.heap.size := lt_below hb1 ltg; have hl1_2 := Nat.le_of_lt hz1_2; have hA1 := bnext (w0 := w) bgo hb1; have hs1 := hA1.size; clear hb1)
      | (go_at_call 37; refine (c64 _ _ _ (by simpa using hv0) hv1).mono ?_; rintro r w2 ⟨rfl, hb2⟩; obtain ⟨hc2, hf2⟩ := bcell hb2; have hz2_0 : w.heap.size < w2.heap.size := lt_below hb2 ltg; have hl2_0 := Nat.le_of_lt hz2_0; have hz2_1 : w.heap.size + 1 < w2.heap.size := lt_below hb2 ltg; have hl2_1 := Nat.le_of_lt hz2_1; have hz2_2 : w.heap.size + 1 + 1 < w2.heap.size := lt_below hb2 ltg; have hl2_2 := Nat.le_of_lt hz2_2; have hA2 := bnext (w0 := w) bgo hb2; have hs2 := hA2.size; clear hb2))
    exact bodyPost_ret (by simp only [results, Tryd.results23]; go_simp) rfl ⟨rfl, bgo⟩)
end
/-- an infinity or a NaN, as another format has it: the bound of its payloads Q -/
theorem sconv_v (t : Int) (Q : Nat) (hQ : ∀ W, Calls Tryd.prog 36 #[.int .i64 (baseN t), .int .i64 (payN t)] W fun r w' => ∃ v, r = .returned (.tuple #[v, .int .i64 0]) ∧ Nt 2001 Q v w' ∧ Below W.heap.size W w') (c x : Int) (s g : Bool) {k : Nat} (hk : k < 2 ^ 256) (w : World) :
    Calls Tryd.prog 23 #[InfV t, DV c s g x k] w fun r w' => r = .returned (.tuple #[DV c s false x (if k < Q then k else 0), .int .i64 (if g then 1 else 0)]) ∧ Below w.heap.size w w' := by
  have c64 : ∀ W v u, Nt 4 k v W → Nt 2001 Q u W → Calls Tryd.prog 37 #[v, u] W fun r w' => r = .returned (.int .i64 (sgn (k : Int) (Q : Int))) ∧ Below W.heap.size W w' := fun W v u h1 h2 => ncmp_v (by decide) (by decide) h1 h2
  by_cases h : k < Q
  · rw [if_pos h]
    refine scnv_l _ _ _ _ _ _ _ _ c x _ _ s g k Q hk w _ hQ c64 ?_
    rcases sgn_ways (k : Int) (Q : Int) with ⟨x, e⟩ | ⟨x, e⟩ | ⟨x, e⟩ <;> omega
  · rw [if_neg h]
    refine scnv_g _ _ _ _ _ _ _ _ c x _ _ s g k Q hk w _ hQ c64 ?_
    rcases sgn_ways (k : Int) (Q : Int) with ⟨x, e⟩ | ⟨x, e⟩ | ⟨x, e⟩ <;> omega
/-- the bound of a binary format's payloads -/
theorem bin_bound {t : Int} (hb : binN t) (W : World) : Calls Tryd.prog 36 #[.int .i64 (baseN t), .int .i64 (payN t)] W fun r w' => ∃ v, r = .returned (.tuple #[v, .int .i64 0]) ∧ Nt 2001 (2 ^ (fN t - 1)) v w' ∧ Below W.heap.size W w' := by
  obtain ⟨f1, f2, f3, f4, f5, f6⟩ := bin_fields hb
  have h2 := fN_two hb
  have h240 := (bin_fm hb).f240
  rw [f2, f6, show (fN t : Int) - 1 = ((fN t - 1 : Nat) : Int) by omega]
  exact npow2z (fN t - 1) W (by omega)
end
section
attribute [local irreducible] W4
section
variable (m t d c x : Int) (s g : Bool) (k B : Nat) (I : Value) (w : World) (hT : Tab w)
include hT
set_option maxHeartbeats 2000000 in
theorem cvb_e1
    (c1 : ∀ W, Tab W → Calls Tryd.prog 19 #[.int .i64 m, A4 B] W fun r w' => r = .returned (.tuple #[DV c s g x k, .int .i64 1]) ∧ Below W.heap.size W w') :
    Calls Tryd.prog 17 #[.int .i64 m, .int .i64 t, .int .i64 d, A4 B] w fun r w' => r = .returned (.tuple #[A4 0, .int .i64 0, .int .i64 1]) ∧ Below w.heap.size w w' := by
  rw [Z4_eq]
  have hsm := cell_set_map
  go_enter Tryd.func17, Tryd.ntmps17
  go_wp2_with (first
    | (go_at_call 19; refine (c1 _ (hT.go bgo)).mono ?_; rintro r w1 ⟨rfl, hb1⟩; obtain ⟨hc1, hf1⟩ := bcell hb1; have hz1_0 : w.heap.size < w1.heap.size := lt_below hb1 ltg; have hl1_0 := Nat.le_of_lt hz1_0; have hz1_1 : w.heap.size + 1 < w1.heap.size := lt_below hb1 ltg; have hl1_1 := Nat.le_of_lt hz1_1; have hA1 := bnext (w0 := w) bgo hb1; have hs1 := hA1.size; clear hb1))
  exact bodyPost_ret (by simp only [results, Tryd.results17]; go_simp) rfl ⟨rfl, bgo⟩
variable (c1 : ∀ W, Tab W → Calls Tryd.prog 19 #[.int .i64 m, A4 B] W fun r w' => r = .returned (.tuple #[DV c s g x k, .int .i64 0]) ∧ Below W.heap.size W w')
include c1
set_option maxHeartbeats 2000000 in
theorem cvb_e2
    (c2 : ∀ W, Tab W → Calls Tryd.prog 21 #[.int .i64 t, .int .i64 2, .int .i64 d] W fun r w' => r = .returned (.tuple #[IZ, .int .i64 1]) ∧ Below W.heap.size W w') :
    Calls Tryd.prog 17 #[.int .i64 m, .int .i64 t, .int .i64 d, A4 B] w fun r w' => r = .returned (.tuple #[A4 0, .int .i64 0, .int .i64 1]) ∧ Below w.heap.size w w' := by
  rw [Z4_eq]
  have hsm := cell_set_map
  go_enter Tryd.func17, Tryd.ntmps17
  go_wp2_with (first
    | (go_at_call 19; refine (c1 _ (hT.go bgo)).mono ?_; rintro r w1 ⟨rfl, hb1⟩; obtain ⟨hc1, hf1⟩ := bcell hb1; have hz1_0 : w.heap.size < w1.heap.size := lt_below hb1 ltg; have hl1_0 := Nat.le_of_lt hz1_0; have hz1_1 : w.heap.size + 1 < w1.heap.size := lt_below hb1 ltg; have hl1_1 := Nat.le_of_lt hz1_1; have hA1 := bnext (w0 := w) bgo hb1; have hs1 := hA1.size; clear hb1)
    | (go_at_call 21; refine (c2 _ (hT.go bgo)).mono ?_; rintro r w2 ⟨rfl, hb2⟩; obtain ⟨hc2, hf2⟩ := bcell hb2; have hz2_0 : w.heap.size < w2.heap.size := lt_below hb2 ltg; have hl2_0 := Nat.le_of_lt hz2_0; have hz2_1 : w.heap.size + 1 < w2.heap.size := lt_below hb2 ltg; have hl2_1 := Nat.le_of_lt hz2_1; have hz2_2 : w1.heap.size < w2.heap.size := lt_below hb2 ltg; have hl2_2 := Nat.le_of_lt hz2_2; have hA2 := bnext (w0 := w) bgo hb2; have hs2 := hA2.size; clear hb2))
  exact bodyPost_ret (by simp only [results, Tryd.results17]; go_simp) rfl ⟨rfl, bgo⟩
variable (c2 : ∀ W, Tab W → Calls Tryd.prog 21 #[.int .i64 t, .int .i64 2, .int .i64 d] W fun r w' => r = .returned (.tuple #[InfV t, .int .i64 0]) ∧ Below W.heap.size W w')
include c2
set_option maxHeartbeats 2000000 in
theorem cvb_1 (hc : c = 1) (R : Nat) (F : Int)
    (cR : ∀ W, Tab W → Calls Tryd.prog 22 #[.int .i64 t, .int .i64 d, .bool s, A4 k, .int .i64 x] W fun r w' => r = .returned (.tuple #[A4 R, .int .i64 F, .int .i64 0]) ∧ Below W.heap.size W w') :
    Calls Tryd.prog 17 #[.int .i64 m, .int .i64 t, .int .i64 d, A4 B] w fun r w' => r = .returned (.tuple #[A4 R, .int .i64 F, .int .i64 0]) ∧ Below w.heap.size w w' := by
  subst hc
  have hsm := cell_set_map
  go_enter Tryd.func17, Tryd.ntmps17
  go_wp2_with (first
    | (go_at_call 19; refine (c1 _ (hT.go bgo)).mono ?_; rintro r w1 ⟨rfl, hb1⟩; obtain ⟨hc1, hf1⟩ := bcell hb1; have hz1_0 : w.heap.size < w1.heap.size := lt_below hb1 ltg; have hl1_0 := Nat.le_of_lt hz1_0; have hz1_1 : w.heap.size + 1 < w1.heap.size := lt_below hb1 ltg; have hl1_1 := Nat.le_of_lt hz1_1; have hA1 := bnext (w0 := w) bgo hb1; have hs1 := hA1.size; clear hb1)
    | (go_at_call 21; refine (c2 _ (hT.go bgo)).mono ?_; rintro r w2 ⟨rfl, hb2⟩; obtain ⟨hc2, hf2⟩ := bcell hb2; have hz2_0 : w.heap.size < w2.heap.size := lt_below hb2 ltg; have hl2_0 := Nat.le_of_lt hz2_0; have hz2_1 : w.heap.size + 1 < w2.heap.size := lt_below hb2 ltg; have hl2_1 := Nat.le_of_lt hz2_1; have hz2_2 : w1.heap.size < w2.heap.size := lt_below hb2 ltg; have hl2_2 := Nat.le_of_lt hz2_2; have hA2 := bnext (w0 := w) bgo hb2; have hs2 := hA2.size; clear hb2)
    | (go_at_call 22; refine (cR _ (hT.go bgo)).mono ?_; rintro r w3 ⟨rfl, hb3⟩; obtain ⟨hc3, hf3⟩ := bcell hb3; have hz3_0 : w.heap.size < w3.heap.size := lt_below hb3 ltg; have hl3_0 := Nat.le_of_lt hz3_0; have hz3_1 : w.heap.size + 1 < w3.heap.size := lt_below hb3 ltg; have hl3_1 := Nat.le_of_lt hz3_1; have hz3_2 : w1.heap.size < w3.heap.size := lt_below hb3 ltg; have hl3_2 := Nat.le_of_lt hz3_2; have hz3_3 : w2.heap.size < w3.heap.size := lt_below hb3 ltg; have hl3_3 := Nat.le_of_lt hz3_3; have hA3 := bnext (w0 := w) bgo hb3; have hs3 := hA3.size; clear hb3))
  exact bodyPost_ret (by simp only [results, Tryd.results17]; go_simp) rfl ⟨rfl, bgo⟩
set_option maxHeartbeats 4000000 in
theorem cvb_3 (hc : c = 2 ∨ c = 3) (k' R : Nat) (F : Int)
    (cC : ∀ W, Calls Tryd.prog 23 #[InfV t, DV c s g x k] W fun r w' => r = .returned (.tuple #[DV c s false x k', .int .i64 F]) ∧ Below W.heap.size W w')
    (cP : ∀ W, Tab W → Calls Tryd.prog 24 #[.int .i64 t, DV c s false x k'] W fun r w' => r = .returned (.tuple #[A4 R, .int .i64 0]) ∧ Below W.heap.size W w') :
    Calls Tryd.prog 17 #[.int .i64 m, .int .i64 t, .int .i64 d, A4 B] w fun r w' => r = .returned (.tuple #[A4 R, .int .i64 F, .int .i64 0]) ∧ Below w.heap.size w w' := by
  have hsm := cell_set_map
  rcases hc with rfl | rfl
  all_goals (
    go_enter Tryd.func17, Tryd.ntmps17
    go_wp2_with (first
      | (go_at_call 19; refine (c1 _ (hT.go bgo)).mono ?_; rintro r w1 ⟨rfl, hb1⟩; obtain ⟨hc1, hf1⟩ := bcell hb1; have hz1_0 : w.heap.size < w1.heap.size := lt_below hb1 ltg; have hl1_0 := Nat.le_of_lt hz1_0; have hz1_1 : w.heap.size + 1 < w1.heap.size := lt_below hb1 ltg; have hl1_1 := Nat.le_of_lt hz1_1; have hA1 := bnext (w0 := w) bgo hb1; have hs1 := hA1.size; clear hb1)
      | (go_at_call 21; refine (c2 _ (hT.go bgo)).mono ?_; rintro r w2 ⟨rfl, hb2⟩; obtain ⟨hc2, hf2⟩ := bcell hb2; have hz2_0 : w.heap.size < w2.heap.size := lt_below hb2 ltg; have hl2_0 := Nat.le_of_lt hz2_0; have hz2_1 : w.heap.size + 1 < w2.heap.size := lt_below hb2 ltg; have hl2_1 := Nat.le_of_lt hz2_1; have hz2_2 : w1.heap.size < w2.heap.size := lt_below hb2 ltg; have hl2_2 := Nat.le_of_lt hz2_2; have hA2 := bnext (w0 := w) bgo hb2; have hs2 := hA2.size; clear hb2)
      | (go_at_call 23; refine (cC _).mono ?_; rintro r w3 ⟨rfl, hb3⟩; obtain ⟨hc3, hf3⟩ := bcell hb3; have hz3_0 : w.heap.size < w3.heap.size := lt_below hb3 ltg; have hl3_0 := Nat.le_of_lt hz3_0; have hz3_1 : w.heap.size + 1 < w3.heap.size := lt_below hb3 ltg; have hl3_1 := Nat.le_of_lt hz3_1; have hz3_2 : w1.heap.size < w3.heap.size := lt_below hb3 ltg; have hl3_2 := Nat.le_of_lt hz3_2; have hz3_3 : w2.heap.size < w3.heap.size := lt_below hb3 ltg; have hl3_3 := Nat.le_of_lt hz3_3; have hA3 := bnext (w0 := w) bgo hb3; have hs3 := hA3.size; clear hb3)
      | (go_at_call 24; refine (cP _ (hT.go bgo)).mono ?_; rintro r w4 ⟨rfl, hb4⟩; obtain ⟨hc4, hf4⟩ := bcell hb4; have hz4_0 : w.heap.size < w4.heap.size := lt_below hb4 ltg; have hl4_0 := Nat.le_of_lt hz4_0; have hz4_1 : w.heap.size + 1 < w4.heap.size := lt_below hb4 ltg; have hl4_1 := Nat.le_of_lt hz4_1; have hz4_2 : w1.heap.size < w4.heap.size := lt_below hb4 ltg; have hl4_2 := Nat.le_of_lt hz4_2; have hz4_3 : w2.heap.size < w4.heap.size := lt_below hb4 ltg; have hl4_3 := Nat.le_of_lt hz4_3; have hA4 := bnext (w0 := w) bgo hb4; have hs4 := hA4.size; clear hb4))
    exact bodyPost_ret (by simp only [results, Tryd.results17]; go_simp) rfl ⟨rfl, bgo⟩)
end
theorem conv_v (m t d : Int) (B : Nat) (w : World) (hT : Tab w) (hB : B < 2 ^ 256) :
    Calls Tryd.prog 17 #[.int .i64 m, .int .i64 t, .int .i64 d, A4 B] w fun r w' => r = .returned (.tuple #[A4 (cnV m t d B), .int .i64 (cnF m t d B), .int .i64 (cnE m t d B)]) ∧ Below w.heap.size w w' := by
  have c1 : ∀ W, Tab W → Calls Tryd.prog 19 #[.int .i64 m, A4 B] W fun r w' => r = .returned (.tuple #[DV (unD m B).c (unD m B).s (unD m B).g (unD m B).x (unD m B).k, .int .i64 (unE m B)]) ∧ Below W.heap.size W w' := fun W h => unpack_any m B W h hB
  unfold cnV cnF cnE
  by_cases h1 : goodN m B
  · rw [show unE m B = 0 from if_pos h1] at c1
    by_cases h2 : binN t ∧ knB d
    · obtain ⟨hb, hd⟩ := h2
      obtain ⟨f1, f2, f3, f4, f5, f6⟩ := bin_fields hb
      have c2 := fun W h => starg_y W h f1 f2 hd
      have hc : cnG m t d B := ⟨h1, hb, hd⟩
      rw [if_pos hc, if_pos hc, if_pos hc]
      have hi := und_is h1
      have hkk := unD_k m B
      generalize unD m B = D at *
      obtain ⟨c, s, g, x, k⟩ := D
      dsimp only at c1 hkk
      have cC := fun c W => sconv_v t _ (bin_bound hb) c x s g hkk W
      rcases hi with ⟨i1, i2, i3, i4, i5, i6⟩ | ⟨i1, i2, i3, i4⟩ | ⟨i1, i2, i3, i4⟩
      · dsimp only at i1 i2
        subst i1
        rw [show cvV t d ⟨1, s, g, x, k⟩ = rdV t d s k 1 x from rfl, show cvF t d ⟨1, s, g, x, k⟩ = rdF t d s k 1 x from rfl]
        exact cvb_1 m t d 1 x s g k B w hT c1 c2 rfl _ _ (fun W h => scaled_good t d x s k W h hb hd hkk)
      · dsimp only at i1 i2 i3 i4
        subst i1 i2 i3 i4
        have hE : pkE t ⟨2, s, false, 0, 0⟩ = 0 := by
          unfold pkE
          rw [if_pos hb]
          exact if_pos (Or.inr (Or.inl ⟨rfl, rfl, rfl, rfl⟩))
        have cP := fun W h => pack_any t ⟨2, s, false, 0, 0⟩ W h (show 0 < 2 ^ 256 by decide)
        rw [hE] at cP
        refine cvb_3 m t d 2 0 s false 0 B w hT c1 c2 (Or.inl rfl) _ _ _ (cC 2) ?_
        rw [ite_self]
        exact cP
      · dsimp only at i1 i2
        subst i1 i2
        have hk' : (if k < 2 ^ (fN t - 1) then k else 0) < 2 ^ 256 := by split <;> omega
        have hE : pkE t ⟨3, s, false, 0, if k < 2 ^ (fN t - 1) then k else 0⟩ = 0 := by
          unfold pkE
          rw [if_pos hb]
          refine if_pos (Or.inr (Or.inr ⟨rfl, rfl, ?_, Or.inr rfl⟩))
          dsimp only
          split
          · assumption
          · exact Nat.two_pow_pos _
        have cP := fun W h => pack_any t ⟨3, s, false, 0, if k < 2 ^ (fN t - 1) then k else 0⟩ W h hk'
        rw [hE] at cP
        exact cvb_3 m t d 3 0 s g k B w hT c1 c2 (Or.inr rfl) _ _ _ (cC 3) cP
    · have hc : ¬ cnG m t d B := fun q => h2 q.2
      rw [if_neg hc, if_neg hc, if_neg hc]
      refine cvb_e2 m t d _ _ _ _ _ B w hT c1 (fun W h => starg_n W h ?_)
      rintro ⟨a1, a2, a3⟩
      refine h2 ⟨?_, a3⟩
      apply Classical.byContradiction
      intro hn
      rcases not_bin hn with ⟨q1, q2⟩ | q1
      · rw [a2] at q2; exact absurd q2 (by decide)
      · exact q1 a1
  · rw [show unE m B = 1 from if_neg h1] at c1
    have hc : ¬ cnG m t d B := fun q => h1 q.1
    rw [if_neg hc, if_neg hc, if_neg hc]
    exact cvb_e1 m t d _ _ _ _ _ B w hT c1
end
section
attribute [local irreducible] W4 mo
theorem wide_ld : ld 7205759403792794 1 = 52 := by
  have e1 : bl 7205759403792794 = 53 := bl_eq (by decide) (by decide)
  have e3 : bl 1 = 1 := bl_eq (by decide) (by decide)
  unfold ld
  rw [e1, e3]
  decide
theorem wide_X : rX 3 7205759403792794 1 (-56) = -56 := by unfold rX; rw [wide_ld]; decide
theorem wide_Q : rQ 3 7205759403792794 1 (-56) = -27 := by unfold rQ; rw [wide_ld, wide_X]; decide
theorem wide_C : rC 3 0 false 7205759403792794 1 (-56) = 13421773 := by unfold rC; rw [wide_X, wide_Q]; decide
theorem wide_bl : bl 13421773 = 24 := bl_eq (by decide) (by decide)
theorem wide_V : rdV 3 0 false 7205759403792794 1 (-56) = 1036831949 := by
  unfold rdV rQ' rC'
  rw [wide_C, wide_bl, wide_Q]
  decide
theorem wide_F : rdF 3 0 false 7205759403792794 1 (-56) = 8 := by
  unfold rdF rQ'
  rw [wide_C, wide_bl, wide_Q, wide_X, wide_ld]
  decide
theorem tenth12 : cnV 4 3 0 4591870180066957722 = 1036831949 ∧ cnF 4 3 0 4591870180066957722 = 8 ∧ cnE 4 3 0 4591870180066957722 = 0 := by
  have hg : cnG 4 3 0 4591870180066957722 := ⟨by decide, by decide, by decide⟩
  unfold cnV cnF cnE
  rw [if_pos hg, if_pos hg, if_pos hg]
  have hu : unD 4 4591870180066957722 = ⟨1, false, false, -56, 7205759403792794⟩ := by kernel_rfl
  rw [hu]
  exact ⟨wide_V, wide_F, rfl⟩
end
section
/-- a float64's pattern, narrowed: the pattern, and the flags -/
def nwV (b : Nat) : Nat := cvV 3 0 (unD 4 b)
def nwF (b : Nat) : Int := cvF 3 0 (unD 4 b)
/-- what native's Narrow answers of what is no NaN -/
structure NatN (TT : World → Prop) : Prop where
  next : ∀ w w', TT w → Below w.heap.size w w' → TT w'
  nw : ∀ b W, b < 2 ^ 64 → (unD 4 b).c ≠ 3 → TT W → Calls Tryd.prog 16 #[.float .f64 b] W fun r w' => r = .returned (.tuple #[.float .f32 (nwV b), .int .i64 (nwF b)]) ∧ Below W.heap.size W w'
theorem awk21_T : nwV 4591870180066957722 = 1036831949 ∧ nwF 4591870180066957722 = 8 ∧ (unD 4 4591870180066957722).c ≠ 3 := by
  have hg : cnG 4 3 0 4591870180066957722 := ⟨by decide, by decide, by decide⟩
  obtain ⟨t1, t2, t3⟩ := tenth12
  rw [show cnV 4 3 0 4591870180066957722 = cvV 3 0 (unD 4 4591870180066957722) from if_pos hg] at t1
  rw [show cnF 4 3 0 4591870180066957722 = cvF 3 0 (unD 4 4591870180066957722) from if_pos hg] at t2
  refine ⟨t1, t2, ?_⟩
  have hu : unD 4 4591870180066957722 = ⟨1, false, false, -56, 7205759403792794⟩ := by kernel_rfl
  rw [hu]
  decide
attribute [local irreducible] W4
set_option maxHeartbeats 1000000 in
theorem awake21 {TT : World → Prop} (h : NatN TT) (w : World) (hT : TT w) : Calls Tryd.prog 7 #[] w fun r w' => r = .returned (.bool true) ∧ Below w.heap.size w w' := by
  obtain ⟨e1, e2, e3⟩ := awk21_T
  have c9 := fun W hW => h.nw 4591870180066957722 W (by decide) e3 hW
  rw [e1, e2] at c9
  clear e1 e2 e3
  have x1 := run_b32 1036831949
  have hsm := cell_set_map
  go_enter Tryd.func7, Tryd.ntmps7
  go_wp2_with (go_at_call 16; refine (c9 _ (h.next _ _ hT bgo)).mono ?_; rintro r w1 ⟨rfl, hb1⟩; obtain ⟨hc1, hf1⟩ := bcell hb1; have hA1 := bnext (w0 := w) bgo hb1; have hs1 := hA1.size; clear hb1)
  go_ret
  exact ⟨by first | rfl | simp, bgo⟩
end
section
theorem A4_oneT {K : Nat} (h : K < 18446744073709551616) : A4 K = .agg #[.int .u64 (K : Int), .int .u64 0, .int .u64 0, .int .u64 0] := by
  unfold A4
  rw [show W4 K 0 = (K : Int) by unfold W4; rw [Nat.mul_zero, Nat.pow_zero, Nat.div_one, Nat.mod_eq_of_lt h]]
  have z : ∀ i, 0 < i → W4 K i = 0 := fun i hi => by
    unfold W4
    rw [Nat.div_eq_of_lt (Nat.lt_of_lt_of_le h (Nat.le_trans (show 18446744073709551616 ≤ 2 ^ 64 by decide) (Nat.pow_le_pow_right (by decide) (by omega))))]
    rfl
  rw [z 1 (by decide), z 2 (by decide), z 3 (by decide)]
theorem nw_lt (b : Nat) : nwV b < 4294967296 := by
  unfold nwV
  generalize unD 4 b = D
  obtain ⟨c, s, g, x, k⟩ := D
  obtain ⟨h1, _, h2⟩ := cv_turn (t := 3) 0 (by decide) c g x k
  rw [show othD 0 = 0 by decide] at h1
  have hp : 2 ^ (fN 3 + eN 3) = 2147483648 := by decide
  rw [hp] at h1 h2
  cases s <;> omega
attribute [local irreducible] W4
set_option maxHeartbeats 1000000 in
theorem nf3_y (B : Nat) (w : World) (hT : Tab w) (hB : B < 2 ^ 32) :
    Calls Tryd.prog 9 #[A4 B] w fun r w' => r = .returned (.tuple #[.float .f32 B, .int .i64 0]) ∧ Below w.heap.size w w' := by
  have c1 := fun W hW => fits4 3 B (Nat.lt_trans hB (by decide)) W hW
  rw [decide_eq_true (show okN 3 ∧ B < 2 ^ (widthN 3).toNat from ⟨by decide, Nat.lt_of_lt_of_le hB (by decide)⟩)] at c1
  have x1 := run_f32 (B : Int)
  rw [Int.toNat_natCast] at x1
  have hw1 : IntKind.u32.wrap (B : Int) = (B : Int) := by rw [IntKind.wrap_u32]; omega
  rw [A4_oneT (show B < 18446744073709551616 by omega)] at c1 ⊢
  have hsm := cell_set_map
  go_enter Tryd.func9, Tryd.ntmps9
  go_wp2_with (go_at_call 20; refine (c1 _ (hT.go bgo)).mono ?_; rintro r w1 ⟨rfl, hb1⟩; obtain ⟨hc1, hf1⟩ := bcell hb1; have hz1_0 : w.heap.size < w1.heap.size := lt_below hb1 ltg; have hl1_0 := Nat.le_of_lt hz1_0; have hA1 := bnext (w0 := w) bgo hb1; have hs1 := hA1.size; clear hb1)
  exact bodyPost_ret (by simp only [results, Tryd.results9]; go_simp) rfl ⟨rfl, bgo⟩
set_option maxHeartbeats 1000000 in
theorem nf3_n (B : Nat) (w : World) (hT : Tab w) (hB : B < 2 ^ 256) (hn : ¬ B < 2 ^ 32) :
    Calls Tryd.prog 9 #[A4 B] w fun r w' => (∃ z, r = .returned (.tuple #[.float .f32 z, .int .i64 1])) ∧ Below w.heap.size w w' := by
  have c1 := fun W hW => fits4 3 B hB W hW
  rw [decide_eq_false (show ¬ (okN 3 ∧ B < 2 ^ (widthN 3).toNat) from fun h => hn (Nat.lt_of_lt_of_le h.2 (by decide)))] at c1
  have hsm := cell_set_map
  go_enter Tryd.func9, Tryd.ntmps9
  go_wp2_with (go_at_call 20; refine (c1 _ (hT.go bgo)).mono ?_; rintro r w1 ⟨rfl, hb1⟩; obtain ⟨hc1, hf1⟩ := bcell hb1; have hz1_0 : w.heap.size < w1.heap.size := lt_below hb1 ltg; have hl1_0 := Nat.le_of_lt hz1_0; have hA1 := bnext (w0 := w) bgo hb1; have hs1 := hA1.size; clear hb1)
  exact bodyPost_ret (v := .tuple #[.float .f32 0, .int .i64 1]) (by simp only [results, Tryd.results9]; go_simp) rfl ⟨⟨_, rfl⟩, bgo⟩
set_option maxHeartbeats 1000000 in
theorem nt6_v (p : Nat) (w : World) (hp : p < 2 ^ 64) :
    Calls Tryd.prog 11 #[.float .f64 p] w fun r w' => r = .returned (A4 p) ∧ Below w.heap.size w w' := by
  have x1 := run_b64 p
  rw [A4_oneT hp]
  have hsm := cell_set_map
  go_enter Tryd.func11, Tryd.ntmps11
  go_wp2
  exact bodyPost_ret (by simp only [results, Tryd.results11]; go_simp) rfl ⟨rfl, bgo⟩
set_option maxHeartbeats 2000000 in
theorem nnw_p (b V : Nat) (F : Int) (w : World) (hT : Tab w)
    (c1 : ∀ W, Calls Tryd.prog 11 #[.float .f64 b] W fun r w' => r = .returned (A4 b) ∧ Below W.heap.size W w')
    (c2 : ∀ W, Tab W → Calls Tryd.prog 17 #[.int .i64 4, .int .i64 3, .int .i64 0, A4 b] W fun r w' => r = .returned (.tuple #[A4 V, .int .i64 F, .int .i64 0]) ∧ Below W.heap.size W w')
    (c3 : ∀ W, Tab W → Calls Tryd.prog 9 #[A4 V] W fun r w' => r = .returned (.tuple #[.float .f32 V, .int .i64 0]) ∧ Below W.heap.size W w') :
    Calls Tryd.prog 16 #[.float .f64 b] w fun r w' => r = .returned (.tuple #[.float .f32 V, .int .i64 F]) ∧ Below w.heap.size w w' := by
  have hsm := cell_set_map
  go_enter Tryd.func16, Tryd.ntmps16
  go_wp2_with (first
    | (go_at_call 11; refine (c1 _).mono ?_; rintro r w1 ⟨rfl, hb1⟩; obtain ⟨hc1, hf1⟩ := bcell hb1; have hA1 := bnext (w0 := w) bgo hb1; have hs1 := hA1.size; clear hb1)
    | (go_at_call 17; refine (c2 _ (hT.go bgo)).mono ?_; rintro r w2 ⟨rfl, hb2⟩; obtain ⟨hc2, hf2⟩ := bcell hb2; have hA2 := bnext (w0 := w) bgo hb2; have hs2 := hA2.size; clear hb2)
    | (go_at_call 9; refine (c3 _ (hT.go bgo)).mono ?_; rintro r w3 ⟨rfl, hb3⟩; obtain ⟨hc3, hf3⟩ := bcell hb3; have hz3_0 : w2.heap.size < w3.heap.size := lt_below hb3 ltg; have hl3_0 := Nat.le_of_lt hz3_0; have hA3 := bnext (w0 := w) bgo hb3; have hs3 := hA3.size; clear hb3))
  exact bodyPost_ret (by simp only [results, Tryd.results16]; go_simp) rfl ⟨rfl, bgo⟩
theorem nnw_v (b : Nat) (w : World) (hT : Tab w) (hb : b < 2 ^ 64) :
    Calls Tryd.prog 16 #[.float .f64 b] w fun r w' => r = .returned (.tuple #[.float .f32 (nwV b), .int .i64 (nwF b)]) ∧ Below w.heap.size w w' := by
  have hg : cnG 4 3 0 b := ⟨⟨by decide, Nat.lt_of_lt_of_le hb (by decide)⟩, by decide, by decide⟩
  have c2 := fun W hW => conv_v 4 3 0 b W hW (Nat.lt_trans hb (by decide))
  rw [show cnV 4 3 0 b = nwV b from if_pos hg, show cnF 4 3 0 b = nwF b from if_pos hg, show cnE 4 3 0 b = 0 from if_pos hg] at c2
  exact nnw_p b _ _ w hT (fun W => nt6_v b W hb) c2 (fun W hW => nf3_y _ W hW (nw_lt b))
theorem natN : NatN Tab := ⟨fun _ _ h hb => h.go hb, fun b W hb _ hT => nnw_v b W hT hb⟩
end
/-- a number is equal to itself, a NaN is not -/
theorem fm_eq {n : Int} {F : Ieee.Format} (h : FmtOf n F) {B : Nat} (hB : goodN n B) : (F.order B B == some .eq) = decide ((unD n B).c ≠ 3) := by
  obtain ⟨r1, r2, r3⟩ := fm_read h hB
  unfold Ieee.Format.order
  rcases und_is hB with ⟨c1, _⟩ | ⟨c2, _⟩ | ⟨c3, _⟩
  · rw [r1 c1, c1]
    simp [Ieee.Datum.order]
  · rw [r2 c2, c2]
    simp [Ieee.Datum.order]
  · obtain ⟨s, t, e⟩ := r3 c3
    rw [e, c3]
    simp [Ieee.Datum.order]
theorem fm_zero {n : Int} {F : Ieee.Format} (h : FmtOf n F) (s : Bool) (x : Int) : F.nearest s 0 x = sgN n s := by
  unfold Ieee.Format.nearest
  rw [if_pos rfl, fm_word h, Nat.zero_add]
theorem zero_pk {n : Int} (hb : binN n) (s : Bool) (d x : Int) : rdV n d s 0 1 x = sgN n s := by
  unfold rdV
  have hD : isD (fN n) (leastN n) (mostN n) ⟨1, s, false, leastN n, 0⟩ := Or.inl ⟨rfl, rfl, Nat.two_pow_pos _, Int.le_refl _, (by rcases bin_cases hb with rfl | rfl | rfl | rfl | rfl | rfl <;> (dsimp only; decide)), Or.inr rfl⟩
  rw [if_pos rfl]
  have e := pk_fin hb hD
  rw [Int.sub_self, show (0 : Int).toNat = 0 from rfl, Nat.zero_mul, Nat.zero_add] at e
  exact e.trans (by simp)
/-- what a float32 is as a float64 -/
theorem widen_is {y : Nat} (hy : y < 2 ^ 32) (h3 : (unD 3 y).c ≠ 3) {d : Int} (hd : knB d) :
    floatToFloatBits .f32 y .f64 = some (cnV 3 4 d y) ∧ cnF 3 4 d y = 0 ∧ cnE 3 4 d y = 0 ∧ cnV 3 4 d y < 2 ^ 64 := by
  have hg : goodN 3 y := ⟨by decide, hy⟩
  have hc : cnG 3 4 d y := ⟨hg, by decide, hd⟩
  have hi := und_is hg
  have hgf : (unD 3 y).g = false := by
    rcases hi with ⟨_, q, _⟩ | ⟨_, q, _⟩ | ⟨q, _⟩
    · exact q
    · exact q
    · exact absurd q h3
  obtain ⟨D', i1, i2, i3, i4⟩ := cv_widen (m := 3) (n := 4) (by decide) (by decide) hi d
  have h0 : cvV 4 0 (unD 3 y) = cvV 4 d (unD 3 y) := by
    have e1 := (i4 4 0).1
    obtain ⟨v1, v2⟩ := cv_self (m := 4) (by decide) i1 0
    have hD' : D'.g = false := by
      have e2 := (i4 4 0).2
      rw [v2, hgf] at e2
      simp only [Bool.false_eq_true, if_false] at e2
      have e3 := (cv_self (m := 4) (by decide) i1 d).2
      have e4 := (i4 4 d).2
      rw [e3, hgf] at e4
      simp only [Bool.false_eq_true, if_false] at e4
      rw [i3, hgf] at e4
      cases hq : D'.g
      · rfl
      · rw [hq] at e4
        simp at e4
    have hh : hush D' = D' := by
      obtain ⟨c, s, g, x, k⟩ := D'
      dsimp only at hD'
      subst hD'
      rfl
    rw [v1, hh] at e1
    rw [← e1, i2]
  have eV : cnV 3 4 d y = cvV 4 0 (unD 3 y) := by
    unfold cnV
    rw [if_pos hc, h0]
  have eF : cnF 3 4 d y = 0 := by
    unfold cnF
    rw [if_pos hc, i3, hgf]
    rfl
  have hlt : cnV 3 4 d y < 2 ^ 64 := by
    have : goodN 4 (cnV 3 4 d y) := by
      unfold cnV
      rw [if_pos hc, i2]
      exact (pk_good (by decide) i1).1
    exact this.2
  refine ⟨?_, eF, if_pos hc, hlt⟩
  have hgd : goodN 4 (cnV 3 4 d y) := ⟨by decide, hlt⟩
  have hun : unD 4 (cnV 3 4 d y) = D' := by
    unfold cnV
    rw [if_pos hc, i2]
    exact (pk_good (by decide) i1).2
  obtain ⟨r1, r2, r3⟩ := fm_read fmt_3 hg
  obtain ⟨s1, s2, s3⟩ := fm_read fmt_4 hgd
  unfold floatToFloatBits
  rw [if_neg (by decide)]
  show (match Ieee.single.read y with | .nan _ _ => none | .infinity s => some (Ieee.double.write (.infinity s)) | .number s m e => if (Ieee.double.read (Ieee.double.write (.number s m e))).isInfinity then none else some (Ieee.double.write (.number s m e))) = _
  rcases hi with ⟨c1, c2, c3, c4, c5, c6⟩ | ⟨c1, c2, c3, c4⟩ | ⟨c1, _⟩
  · rw [r1 c1]
    dsimp only
    have key : Ieee.double.write (.number (unD 3 y).s (unD 3 y).k (unD 3 y).x) = cnV 3 4 d y := by
      show Ieee.double.nearest (unD 3 y).s (unD 3 y).k (unD 3 y).x = _
      rw [eV]
      have hv : cvV 4 0 (unD 3 y) = rdV 4 0 (unD 3 y).s (unD 3 y).k 1 (unD 3 y).x := by
        unfold cvV
        rw [if_neg (by rw [c1]; decide), if_neg (by rw [c1]; decide)]
      rw [hv]
      by_cases k0 : (unD 3 y).k = 0
      · rw [k0, fm_zero fmt_4, zero_pk (by decide)]
      · refine fm_near fmt_4 _ k0 ?_
        have hl := bl_log fmt_4 k0
        have hb24 : bl (unD 3 y).k ≤ 24 := bl_le.2 c3
        have q1 : (-149 : Int) ≤ (unD 3 y).x := c4
        have q2 : (unD 3 y).x ≤ 104 := c5
        unfold rX wiZ
        rw [ld_log fmt_4 k0, show leastN 4 = -1074 by decide, show mostN 4 = 971 by decide, show fN 4 = 52 by decide]
        omega
    rw [key]
    have hni : (Ieee.double.read (cnV 3 4 d y)).isInfinity = false := by
      have hc1 : (unD 4 (cnV 3 4 d y)).c = 1 := by
        rw [hun]
        rcases id i1 with ⟨q, _⟩ | ⟨q1, q2, q3, q4⟩ | ⟨q, q2, _⟩
        · exact q
        · exfalso
          have e1 := (i4 3 0).1
          obtain ⟨c, s, g, x, k⟩ := D'
          dsimp only at q1 q2 q3 q4
          subst q1 q2 q3 q4
          have a1 : cvV 3 0 ⟨2, s, false, 0, 0⟩ = pkV 3 ⟨2, s, false, 0, 0⟩ := rfl
          obtain ⟨v1, _⟩ := cv_self (m := 3) (by decide) (und_is hg) 0
          rw [a1, v1] at e1
          have hh : hush (unD 3 y) = unD 3 y := by
            generalize unD 3 y = D at *
            obtain ⟨c, s, g, x, k⟩ := D
            dsimp only at hgf
            subst hgf
            rfl
          rw [hh] at e1
          have u1 := (pk_good (n := 3) (by decide) (D := ⟨2, s, false, 0, 0⟩) (Or.inr (Or.inl ⟨rfl, rfl, rfl, rfl⟩))).2
          rw [e1, (pk_good (by decide) (und_is hg)).2] at u1
          rw [u1] at c1
          exact absurd (show (2 : Int) = 1 from c1) (by decide)
        · exfalso
          have e1 := (i4 3 0).1
          obtain ⟨v1, _⟩ := cv_self (m := 3) (by decide) (und_is hg) 0
          have hh : hush (unD 3 y) = unD 3 y := by
            generalize unD 3 y = D at *
            obtain ⟨c, s, g, x, k⟩ := D
            dsimp only at hgf
            subst hgf
            rfl
          rw [v1, hh] at e1
          have a1 : cvV 3 0 D' = pkV 3 ⟨3, D'.s, false, 0, if D'.k < 2 ^ (fN 3 - 1) then D'.k else 0⟩ := by
            unfold cvV
            rw [if_neg (by rw [q]; decide), if_pos q]
          rw [a1] at e1
          have u1 := (pk_good (n := 3) (by decide) (D := ⟨3, D'.s, false, 0, if D'.k < 2 ^ (fN 3 - 1) then D'.k else 0⟩) (Or.inr (Or.inr ⟨rfl, rfl, by dsimp only; split <;> first | assumption | exact Nat.two_pow_pos _, Or.inr rfl⟩))).2
          rw [e1, (pk_good (by decide) (und_is hg)).2] at u1
          rw [u1] at c1
          exact absurd (show (3 : Int) = 1 from c1) (by decide)
      rw [s1 hc1]
      rfl
    rw [hni]
    rfl
  · rw [r2 c1]
    dsimp only
    have hv : cnV 3 4 d y = pkV 4 ⟨2, (unD 3 y).s, false, 0, 0⟩ := by
      rw [eV]
      unfold cvV
      rw [if_pos c1]
    rw [hv, pk_inf (by decide)]
    show some (Ieee.double.word (unD 3 y).s Ieee.double.infRung) = _
    rw [fm_word fmt_4, fm_inf fmt_4]
  · exact absurd c1 h3
section
theorem A4_sm21 {K : Nat} (h : K < 18446744073709551616) : A4 K = .agg #[.int .u64 (K : Int), .int .u64 0, .int .u64 0, .int .u64 0] := by
  have e : ∀ i, i ≠ 0 → W4 K i = 0 := fun i hi => by
    unfold W4
    have h1 : 18446744073709551616 ≤ 2 ^ (64 * i) := by
      have : (2 : Nat) ^ 64 ≤ 2 ^ (64 * i) := Nat.pow_le_pow_right (by decide) (by omega)
      exact this
    rw [Nat.div_eq_of_lt (by omega)]
    rfl
  have e0 : W4 K 0 = (K : Int) := by
    unfold W4
    rw [Nat.mul_zero, Nat.pow_zero, Nat.div_one, Nat.mod_eq_of_lt h]
  unfold A4
  rw [e0, e 1 (by decide), e 2 (by decide), e 3 (by decide)]
attribute [local irreducible] W4
section
variable (TT : World → Prop) (hTT : ∀ w w', TT w → Below w.heap.size w w' → TT w') (w : World) (hT : TT w)
  (c8 : ∀ W, TT W → Calls Tryd.prog 7 #[] W fun r w' => r = .returned (.bool true) ∧ Below W.heap.size W w')
  (y : Nat) (d : Int) (hy : y < 2 ^ 32)
include hTT hT c8 hy
set_option maxHeartbeats 4000000 in
theorem nd21_n (h3 : (unD 3 y).c = 3) :
    Calls Tryd.prog 5 #[.int .u32 (y : Int), .int .i64 d] w fun r w' => r = .returned (.bool true) ∧ Below w.heap.size w w' := by
  have hsm := cell_set_map
  have x1 := run_f32 (y : Int)
  rw [Int.toNat_natCast] at x1
  have hq : ¬ (FloatKind.f32.format.order y y = some .eq) := by
    have h := fm_eq fmt_3 ⟨by decide, hy⟩
    rw [decide_eq_false (by rw [h3]; decide)] at h
    exact fun e => by rw [show Ieee.single.order y y = some .eq from e] at h; exact absurd h (by decide)
  go_enter Tryd.func5, Tryd.ntmps5
  go_wp2_with (first
    | (go_at_call 7; refine (c8 _ (hTT _ _ hT bgo)).mono ?_; rintro r w1 ⟨rfl, hb1⟩; obtain ⟨hc1, hf1⟩ := bcell hb1; have hA1 := bnext (w0 := w) bgo hb1; have hs1 := hA1.size; clear hb1))
  all_goals (first | (go_ret; exact ⟨by first | rfl | simp, bgo⟩) | (exfalso; first | contradiction | omega))
set_option maxHeartbeats 4000000 in
theorem nd21_d (hd : ¬ (0 ≤ d ∧ d ≤ 4)) :
    Calls Tryd.prog 5 #[.int .u32 (y : Int), .int .i64 d] w fun r w' => r = .returned (.bool true) ∧ Below w.heap.size w w' := by
  have hsm := cell_set_map
  have x1 := run_f32 (y : Int)
  rw [Int.toNat_natCast] at x1
  go_enter Tryd.func5, Tryd.ntmps5
  go_wp2_with (first
    | (go_at_call 7; refine (c8 _ (hTT _ _ hT bgo)).mono ?_; rintro r w1 ⟨rfl, hb1⟩; obtain ⟨hc1, hf1⟩ := bcell hb1; have hA1 := bnext (w0 := w) bgo hb1; have hs1 := hA1.size; clear hb1))
  all_goals (first | (go_ret; exact ⟨by first | rfl | simp, bgo⟩) | (exfalso; first | contradiction | omega))
set_option maxHeartbeats 4000000 in
theorem nd21_y (hd : 0 ≤ d ∧ d ≤ 4) (hq : FloatKind.f32.format.order y y = some .eq) (V : Nat) (hV : V < 2 ^ 64) (hw : floatToFloatBits .f32 y .f64 = some V)
    (c9 : ∀ W, TT W → Calls Tryd.prog 17 #[.int .i64 3, .int .i64 4, .int .i64 d, A4 y] W fun r w' => r = .returned (.tuple #[A4 V, .int .i64 0, .int .i64 0]) ∧ Below W.heap.size W w') :
    Calls Tryd.prog 5 #[.int .u32 (y : Int), .int .i64 d] w fun r w' => r = .returned (.bool true) ∧ Below w.heap.size w w' := by
  have hsm := cell_set_map
  have x1 := run_f32 (y : Int)
  rw [Int.toNat_natCast] at x1
  have x2 := run_b64 V
  have h24 := eq24 (V : Int) 0 0 0 (V : Int) 0 0 0
  rw [decide_eq_true ⟨rfl, rfl, rfl, rfl⟩] at h24
  have hwr : IntKind.u64.wrap (y : Int) = (y : Int) := by rw [IntKind.wrap_u64]; omega
  have hA4y : A4 y = .agg #[.int .u64 (y : Int), .int .u64 0, .int .u64 0, .int .u64 0] := A4_sm21 (by omega)
  have hA4V : A4 V = .agg #[.int .u64 (V : Int), .int .u64 0, .int .u64 0, .int .u64 0] := A4_sm21 (by omega)
  rw [hA4y, hA4V] at c9
  clear hA4y hA4V
  have x3 : ∀ W, Sem.run Tryd.prog (convert 31 27 (.float .f32 y)) W = .ok (.float .f64 V) W := fun W => run_convert_float_float W _ _ .f32 .f64 y V (by kernel_rfl) (by kernel_rfl) hw
  have hd1 := hd.1
  go_enter Tryd.func5, Tryd.ntmps5
  go_wp2_with (first
    | (go_at_call 7; refine (c8 _ (hTT _ _ hT bgo)).mono ?_; rintro r w1 ⟨rfl, hb1⟩; obtain ⟨hc1, hf1⟩ := bcell hb1; have hA1 := bnext (w0 := w) bgo hb1; have hs1 := hA1.size; clear hb1)
    | (go_at_call 17; refine (c9 _ (hTT _ _ hT bgo)).mono ?_; rintro r w2 ⟨rfl, hb2⟩; obtain ⟨hc2, hf2⟩ := bcell hb2; have hA2 := bnext (w0 := w) bgo hb2; have hs2 := hA2.size; clear hb2)
    | fail)
  refine wp_whole (by kernel_rfl) (by kernel_rfl) fun hne hcell => ?_
  repeat go_big_quiet_step (fail)
  refine wpQuiet_nil fun w6 hb6 => ?_
  have hA6 := bnext (w0 := w) bgo hb6
  go_wp2
  go_ret
  exact ⟨by first | rfl | simp, hA6⟩
end
theorem widens21_v {TT : World → Prop} (h : NatN TT) (hU : ∀ w, TT w → Tab w) (y : Nat) (d : Int) (w : World) (hT : TT w) (hy : y < 2 ^ 32) :
    Calls Tryd.prog 5 #[.int .u32 (y : Int), .int .i64 d] w fun r w' => r = .returned (.bool true) ∧ Below w.heap.size w w' := by
  have c8 := fun W hW => awake21 h W hW
  by_cases hd : 0 ≤ d ∧ d ≤ 4
  · by_cases h3 : (unD 3 y).c = 3
    · exact nd21_n TT h.next w hT c8 y d hy h3
    · obtain ⟨a1, a2, a3, a4⟩ := widen_is hy h3 (d := d) hd
      refine nd21_y TT h.next w hT c8 y d hy hd ?_ _ a4 a1 fun W hW => ?_
      · have e := fm_eq fmt_3 ⟨by decide, hy⟩
        rw [decide_eq_true h3] at e
        exact eq_of_beq e
      · have c := conv_v 3 4 d y W (hU W hW) (Nat.lt_of_lt_of_le hy (by decide))
        rw [a2, a3] at c
        exact c
  · exact nd21_d TT h.next w hT c8 y d hy hd
end
section
theorem tn_ex {k : Nat} {x : Int} : ∀ (d : Nat) (g0 : Int), tnP k x g0 → ¬ tnP k x (g0 + d) → ∃ E, g0 ≤ E ∧ E < g0 + d ∧ tnP k x E ∧ ¬ tnP k x (E + 1)
  | 0, g0, h0, h1 => absurd h0 (by simpa using h1)
  | d + 1, g0, h0, h1 => by
    by_cases h : tnP k x (g0 + 1)
    · obtain ⟨E, e1, e2, e3, e4⟩ := tn_ex d (g0 + 1) h (by rw [show g0 + 1 + (d : Int) = g0 + ((d + 1 : Nat) : Int) by omega]; exact h1)
      exact ⟨E, by omega, by omega, e3, e4⟩
    · exact ⟨g0, Int.le_refl _, by omega, h0, h⟩
theorem tn_top {k : Nat} {x : Int} (hk : k < 2 ^ 256) (hx : x ≤ 17000) : ¬ tnP k x 6000 := by
  unfold tnP zE oE
  rw [show ((-6000 : Int)).toNat = 0 by decide, Nat.pow_zero, Nat.mul_one, show ((6000 : Int)).toNat = 6000 by decide]
  have h1 : (2 : Nat) ^ 18000 ≤ 10 ^ 6000 := by decide +kernel
  obtain ⟨m', hm'⟩ : ∃ m' : Nat, m' = 18000 := ⟨_, rfl⟩
  rw [← hm'] at h1
  generalize (10 : Nat) ^ 6000 = T at *
  obtain ⟨m, hm⟩ : ∃ m : Nat, m = 17000 := ⟨_, rfl⟩
  have h2 : k * 2 ^ x.toNat < 2 ^ 256 * 2 ^ m := by
    have a1 : k * 2 ^ x.toNat < 2 ^ 256 * 2 ^ x.toNat := Nat.mul_lt_mul_of_pos_right hk (Nat.two_pow_pos _)
    have a2 : 2 ^ 256 * 2 ^ x.toNat ≤ 2 ^ 256 * 2 ^ m := Nat.mul_le_mul_left _ (Nat.pow_le_pow_right (by decide) (by omega))
    exact Nat.lt_of_lt_of_le a1 a2
  rw [← Nat.pow_add] at h2
  have h3 : (2 : Nat) ^ (256 + m) ≤ 2 ^ m' := Nat.pow_le_pow_right (by decide) (by omega)
  have h4 : 1 * T ≤ 2 ^ (-x).toNat * T := Nat.mul_le_mul_right _ (Nat.two_pow_pos _)
  generalize (2 : Nat) ^ (256 + m) = Y at *
  generalize (2 : Nat) ^ m' = Y' at *
  rw [Nat.mul_assoc 4, Nat.mul_assoc 4]
  generalize 2 ^ (-x).toNat * T = Z1 at *
  generalize k * 2 ^ x.toNat = Z2 at *
  omega
attribute [local irreducible] W4 Nz Nt NT
end
/-- how many quarters below a number are read as it -/
def lwN (n x : Int) (k : Nat) : Nat := if nbB n x k then 1 else 2
def evK (k : Nat) : Bool := decide (k % 2 = 0)
/-- the first digit's place, and how many digits behind it -/
structure Shd (n x : Int) (k : Nat) (E : Int) (K : Nat) : Prop where
  t0 : tnP k x E
  t1 : ¬ tnP k x (E + 1)
  st : stK (evK k) (4 * k * oE x E) (lwN n x k * oE x E) (2 * oE x E) (zE x E) K = true
  mn : ∀ j, j < K → stK (evK k) (4 * k * oE x E) (lwN n x k * oE x E) (2 * oE x E) (zE x E) j = false
theorem gs_in {k : Nat} {x : Int} (hk : k < 2 ^ 256) (hk0 : k ≠ 0) (hx : -16990 ≤ x ∧ x ≤ 16990) : tnP k x (gsP k x) ∧ -6000 ≤ gsP k x ∧ gsP k x < 6000 := by
  have hb : bl k ≤ 256 := bl_le.2 hk
  obtain ⟨b1, b2, b3⟩ := bl_bd hk0
  have e : ((bl k - 1 : Nat) : Int) = (bl k : Int) - 1 := by omega
  have := guess_ok (c := k) (L := bl k - 1) (x := x) b1 (by omega)
  rw [e] at this
  refine ⟨this, ?_⟩
  unfold gsP
  by_cases h0 : 0 ≤ (bl k : Int) - 1 + x
  · rw [Int.tdiv_eq_ediv_of_nonneg (by omega)]; omega
  · rw [show ((bl k : Int) - 1 + x) * 30103 = -(-((bl k : Int) - 1 + x) * 30103) by omega, Int.neg_tdiv, Int.tdiv_eq_ediv_of_nonneg (by omega)]; omega
theorem Shd.ex {n x : Int} {k : Nat} (hk : k < 2 ^ 256) (hk0 : k ≠ 0) (hx : -16990 ≤ x ∧ x ≤ 16990) : ∃ E K, Shd n x k E K := by
  obtain ⟨g1, g2, g3⟩ := gs_in hk hk0 hx
  obtain ⟨E, e1, e2, e3, e4⟩ := tn_ex (6000 - gsP k x).toNat (gsP k x) g1 (by rw [show gsP k x + ((6000 - gsP k x).toNat : Int) = 6000 by omega]; exact tn_top hk (by omega))
  have hl : 0 < lwN n x k * oE x E := Nat.mul_pos (by unfold lwN; split <;> decide) (oE_pos _ _)
  obtain ⟨K, h1, h2⟩ := st_ex (c := evK k) (R := 4 * k * oE x E) (u := 2 * oE x E) (zE_pos x E) hl
  exact ⟨E, K, e3, e4, h1, h2⟩
section
theorem NT.head {K V : Nat} {v : Value} {w : World} (h : NT K V v w) (hV : V ≠ 0) : ∃ g k cap z0, v = .slice (some ⟨g, 0, none⟩) k cap ∧ 0 < k ∧ k ≤ K ∧ g < w.heap.size ∧ w.cell? ⟨g, 0, none⟩ = some (.int .u64 z0) ∧ 0 ≤ z0 ∧ z0 ≤ 18446744073709551615 ∧ z0 % 2 = ((V % 2 : Nat) : Int) := by
  have hz := h.zero
  obtain ⟨g, k, cap, z, rfl, hk, ⟨n1, n2, n3, n4, n5⟩, hv, hs⟩ := h
  obtain ⟨g', k', cap', e, _, hz'⟩ := hz
  cases e
  have hk0 : k ≠ 0 := fun e => hV (hz'.1 e)
  rcases n5 with ⟨n5, _⟩ | ⟨b, off, e, hb, hc⟩
  · cases n5
  · cases e
    have hc0 := hc 0 (by omega)
    have hw := n3 0
    have hp := val_odd (by omega : 0 < k) hv
    exact ⟨g, k, cap, z 0, rfl, by omega, hk, hb, hc0, hw.1, hw.2, by omega⟩
attribute [local irreducible] W4 Nz Nt NT NV
end
section
/-- a datum's cells -/
abbrev zd : Array Value := #[.int .i64 0, .bool false, .bool false, .int .i64 0, .int .u64 0, .int .u64 0, .int .u64 0, .int .u64 0]
theorem below_cellsD {n b : Nat} {a : World} (hb : n ≤ b) : ∀ (vs : List Value) (o : Nat) (W : World), Below n a W → Below n a (W.setCells b o vs)
  | [], _, _, h => h
  | v :: r, o, W, h => below_cellsD hb r (o + 1) _ (h.setCell hb v)
/-- a block that holds a datum -/
def D8 (g : Nat) (cs : Array Value) (w : World) : Prop := g < w.heap.size ∧ cs.size = 8 ∧ (∀ i, i < 8 → w.cell? ⟨g, i, none⟩ = cs[i]?) ∧ ∀ i, w.frozen? ⟨g, i, none⟩ = false
theorem D8.next {g : Nat} {cs : Array Value} {w w' : World} (h : D8 g cs w) (hb : Below w.heap.size w w') : D8 g cs w' :=
  ⟨Nat.lt_of_lt_of_le h.1 hb.size, h.2.1, fun i hi => (hb.cell (p := ⟨g, i, none⟩) h.1).trans (h.2.2.1 i hi), fun i => (hb.frozen (p := ⟨g, i, none⟩) h.1).trans (h.2.2.2 i)⟩
theorem D8.new (w : World) : D8 w.heap.size zd (w.alloc (.cells zd 49)) := by
  refine ⟨by simp, rfl, fun i hi => ?_, fun i => ?_⟩
  · rw [World.cell?_alloc_new]
  · simp [go_sem]
theorem D8.put {g : Nat} {cs cs' : Array Value} {w : World} (h : D8 g cs w) (hs : cs'.size = 8) : D8 g cs' (w.setCells g 0 cs'.toList) := by
  have hin := World.cell?_setCells_in g cs'.toList 0 w (fun j hj => by
    rw [Nat.zero_add, h.2.2.1 j (by simpa [hs] using hj), Array.getElem?_eq_getElem (by rw [h.2.1]; simpa [hs] using hj)]; rfl)
  refine ⟨Nat.lt_of_lt_of_le h.1 (below_cellsD (n := 0) (Nat.zero_le _) _ _ _ (Below.refl 0 w)).size, hs, fun i hi => ?_, fun i => ?_⟩
  · have := hin i (by simpa [hs] using hi)
    rw [Nat.zero_add] at this
    rw [this, Array.getElem?_eq_getElem (by rw [hs]; exact hi)]
    simp
  · rw [World.frozen?_setCells]; exact h.2.2.2 i
attribute [local irreducible] W4 Nt NT
section
variable {a : Act} {w : World} {K : Act → World → Prop} {Q : Exit → Act → World → Prop} {d p q : Nat} {ty : TypeId} {pos : String} {after : Array Edge} {gd : Option (Nat × Bool)}
end
end
section
attribute [local irreducible] W4 NT NV
/-- what Convert answers -/
def xiG (m t d : Int) (B : Nat) : Prop := goodD m B ∧ binN t ∧ knB d
instance (m t d : Int) (B : Nat) : Decidable (xiG m t d B) := inferInstanceAs (Decidable (_ ∧ _))
end
theorem fm_ord {n : Int} {F : Ieee.Format} (h : FmtOf n F) {B : Nat} (hB : goodN n B) : F.order B B = if (unD n B).c = 3 then none else some .eq := by
  obtain ⟨r1, r2, r3⟩ := fm_read h hB
  unfold Ieee.Format.order
  rcases und_is hB with ⟨c1, _⟩ | ⟨c2, _⟩ | ⟨c3, _⟩
  · rw [r1 c1, c1]
    simp [Ieee.Datum.order]
  · rw [r2 c2, c2]
    simp [Ieee.Datum.order]
  · obtain ⟨s, t, e⟩ := r3 c3
    rw [e, c3]
    simp [Ieee.Datum.order]
section
attribute [local irreducible] W4
section
variable (TT : World → Prop) (hTT : ∀ w w', TT w → Below w.heap.size w w' → TT w') (w : World) (hT : TT w)
  (c8 : ∀ W, TT W → Calls Tryd.prog 7 #[] W fun r w' => r = .returned (.bool true) ∧ Below W.heap.size W w')
  (x y : Nat) (hx : x < 2 ^ 64) (hy : y < 2 ^ 32)
include hTT hT c8 hx hy
set_option maxHeartbeats 8000000 in
theorem nb21_Ann__ (B M : Nat) (hB : B < 18446744073709551616) (hand : bits .and .u64 (B : Int) 4294967295 = (M : Int)) (b1 b2 b3 : Int) (hb : ¬ (b1 = 0 ∧ b2 = 0 ∧ b3 = 0)) (h64 : FloatKind.f64.format.order x x = none) (h32 : FloatKind.f32.format.order y y = none)
    (c37 : ∀ W, TT W → Calls Tryd.prog 8 #[.agg #[.int .u64 (B : Int), .int .u64 b1, .int .u64 b2, .int .u64 b3]] W fun r w' => (∃ z, r = .returned (.tuple #[.float .f64 z, .int .i64 1])) ∧ Below W.heap.size W w')
    (c38 : ∀ W, TT W → Calls Tryd.prog 9 #[.agg #[.int .u64 (B : Int), .int .u64 b1, .int .u64 b2, .int .u64 b3]] W fun r w' => (∃ z, r = .returned (.tuple #[.float .f32 z, .int .i64 1])) ∧ Below W.heap.size W w') :
    Calls Tryd.prog 3 #[.int .u64 (x : Int), .int .u32 (y : Int), .agg #[.int .u64 (B : Int), .int .u64 b1, .int .u64 b2, .int .u64 b3]] w fun r w' => r = .returned (.bool true) ∧ Below w.heap.size w w' := by
  have hsm := cell_set_map
  have e1 := eq24 (B : Int) b1 b2 b3 (B : Int) 0 0 0
  rw [decide_eq_false (fun h => hb h.2)] at e1
  have e2 := eq24 (B : Int) b1 b2 b3 (M : Int) 0 0 0
  rw [decide_eq_false (fun h => hb h.2)] at e2
  have e3 := eq24 (x : Int) 0 0 0 (x : Int) 0 0 0
  rw [decide_eq_true ⟨rfl, rfl, rfl, rfl⟩] at e3
  have e4 := eq24 (y : Int) 0 0 0 (y : Int) 0 0 0
  rw [decide_eq_true ⟨rfl, rfl, rfl, rfl⟩] at e4
  have x1 := run_f64 (x : Int)
  have x2 := run_f32 (y : Int)
  rw [Int.toNat_natCast] at x1 x2
  have x3 := run_b64 B
  have hn0 : ((none : Option Ordering) != some Ordering.eq) = true := rfl
  have x4 := run_b32 B
  have hwy : IntKind.u64.wrap (y : Int) = (y : Int) := by rw [IntKind.wrap_u64]; omega
  have hwB : IntKind.u64.wrap (B : Int) = (B : Int) := by rw [IntKind.wrap_u64]; omega
  go_enter Tryd.func3, Tryd.ntmps3
  go_upto_region 6 with (first
    | (go_at_call 7; refine (c8 _ (hTT _ _ hT bgo)).mono ?_; rintro r w1 ⟨rfl, hb1⟩; obtain ⟨hc1, hf1⟩ := bcell hb1; have hz1_0 : w.heap.size < w1.heap.size := lt_below hb1 ltg; have hl1_0 := Nat.le_of_lt hz1_0; have hA1 := bnext (w0 := w) bgo hb1; have hs1 := hA1.size; clear hb1)
    | (go_at_call 8; refine (c37 _ (hTT _ _ hT bgo)).mono ?_; rintro r w2 ⟨⟨z2, rfl⟩, hb2⟩; obtain ⟨hc2, hf2⟩ := bcell hb2; have hz2_0 : w.heap.size < w2.heap.size := lt_below hb2 ltg; have hl2_0 := Nat.le_of_lt hz2_0; have hA2 := bnext (w0 := w) bgo hb2; have hs2 := hA2.size; clear hb2)
    | (go_at_call 9; refine (c38 _ (hTT _ _ hT bgo)).mono ?_; rintro r w3 ⟨⟨z3, rfl⟩, hb3⟩; obtain ⟨hc3, hf3⟩ := bcell hb3; have hz3_0 : w.heap.size < w3.heap.size := lt_below hb3 ltg; have hl3_0 := Nat.le_of_lt hz3_0; have hA3 := bnext (w0 := w) bgo hb3; have hs3 := hA3.size; clear hb3))
  refine wp_whole (by kernel_rfl) (by kernel_rfl) fun hne hcell => ?_
  repeat go_big_quiet_step (fail)
  refine wpQuiet_nil fun w6 hb6 => ?_
  clear hne hcell
  obtain ⟨hc6, hf6⟩ := bcell hb6; have hz6_0 : w.heap.size < w6.heap.size := lt_below hb6 ltg; have hl6_0 := Nat.le_of_lt hz6_0; have hA6 := bnext (w0 := w) bgo hb6; have hs6 := hA6.size; clear hb6
  go_upto_region 11 with (first
    | fail
    | fail)
  refine wp_whole (by kernel_rfl) (by kernel_rfl) fun hne hcell => ?_
  repeat go_big_quiet_step (fail)
  refine wpQuiet_nil fun w8 hb8 => ?_
  clear hne hcell
  obtain ⟨hc8, hf8⟩ := bcell hb8; have hz8_0 : w.heap.size < w8.heap.size := lt_below hb8 ltg; have hl8_0 := Nat.le_of_lt hz8_0; have hA8 := bnext (w0 := w) bgo hb8; have hs8 := hA8.size; clear hb8
  go_wp2
  go_ret
  exact ⟨by first | rfl | simp, bgo⟩
set_option maxHeartbeats 8000000 in
theorem nb21_Ane__ (B M : Nat) (hB : B < 18446744073709551616) (hand : bits .and .u64 (B : Int) 4294967295 = (M : Int)) (b1 b2 b3 : Int) (hb : ¬ (b1 = 0 ∧ b2 = 0 ∧ b3 = 0)) (h64 : FloatKind.f64.format.order x x = none) (h32 : FloatKind.f32.format.order y y = some .eq)
    (c37 : ∀ W, TT W → Calls Tryd.prog 8 #[.agg #[.int .u64 (B : Int), .int .u64 b1, .int .u64 b2, .int .u64 b3]] W fun r w' => (∃ z, r = .returned (.tuple #[.float .f64 z, .int .i64 1])) ∧ Below W.heap.size W w')
    (c38 : ∀ W, TT W → Calls Tryd.prog 9 #[.agg #[.int .u64 (B : Int), .int .u64 b1, .int .u64 b2, .int .u64 b3]] W fun r w' => (∃ z, r = .returned (.tuple #[.float .f32 z, .int .i64 1])) ∧ Below W.heap.size W w')
    (c43 : ∀ W, Calls Tryd.prog 14 #[.float .f32 y] W fun r w' => r = .returned (.agg #[.int .u64 (y : Int), .int .u64 0, .int .u64 0, .int .u64 0]) ∧ Below W.heap.size W w') :
    Calls Tryd.prog 3 #[.int .u64 (x : Int), .int .u32 (y : Int), .agg #[.int .u64 (B : Int), .int .u64 b1, .int .u64 b2, .int .u64 b3]] w fun r w' => r = .returned (.bool true) ∧ Below w.heap.size w w' := by
  have hsm := cell_set_map
  have e1 := eq24 (B : Int) b1 b2 b3 (B : Int) 0 0 0
  rw [decide_eq_false (fun h => hb h.2)] at e1
  have e2 := eq24 (B : Int) b1 b2 b3 (M : Int) 0 0 0
  rw [decide_eq_false (fun h => hb h.2)] at e2
  have e3 := eq24 (x : Int) 0 0 0 (x : Int) 0 0 0
  rw [decide_eq_true ⟨rfl, rfl, rfl, rfl⟩] at e3
  have e4 := eq24 (y : Int) 0 0 0 (y : Int) 0 0 0
  rw [decide_eq_true ⟨rfl, rfl, rfl, rfl⟩] at e4
  have x1 := run_f64 (x : Int)
  have x2 := run_f32 (y : Int)
  rw [Int.toNat_natCast] at x1 x2
  have x3 := run_b64 B
  have hn0 : ((none : Option Ordering) != some Ordering.eq) = true := rfl
  have x4 := run_b32 B
  have hwy : IntKind.u64.wrap (y : Int) = (y : Int) := by rw [IntKind.wrap_u64]; omega
  have hwB : IntKind.u64.wrap (B : Int) = (B : Int) := by rw [IntKind.wrap_u64]; omega
  go_enter Tryd.func3, Tryd.ntmps3
  go_upto_region 6 with (first
    | (go_at_call 7; refine (c8 _ (hTT _ _ hT bgo)).mono ?_; rintro r w1 ⟨rfl, hb1⟩; obtain ⟨hc1, hf1⟩ := bcell hb1; have hz1_0 : w.heap.size < w1.heap.size := lt_below hb1 ltg; have hl1_0 := Nat.le_of_lt hz1_0; have hA1 := bnext (w0 := w) bgo hb1; have hs1 := hA1.size; clear hb1)
    | (go_at_call 8; refine (c37 _ (hTT _ _ hT bgo)).mono ?_; rintro r w2 ⟨⟨z2, rfl⟩, hb2⟩; obtain ⟨hc2, hf2⟩ := bcell hb2; have hz2_0 : w.heap.size < w2.heap.size := lt_below hb2 ltg; have hl2_0 := Nat.le_of_lt hz2_0; have hA2 := bnext (w0 := w) bgo hb2; have hs2 := hA2.size; clear hb2)
    | (go_at_call 9; refine (c38 _ (hTT _ _ hT bgo)).mono ?_; rintro r w3 ⟨⟨z3, rfl⟩, hb3⟩; obtain ⟨hc3, hf3⟩ := bcell hb3; have hz3_0 : w.heap.size < w3.heap.size := lt_below hb3 ltg; have hl3_0 := Nat.le_of_lt hz3_0; have hA3 := bnext (w0 := w) bgo hb3; have hs3 := hA3.size; clear hb3))
  refine wp_whole (by kernel_rfl) (by kernel_rfl) fun hne hcell => ?_
  repeat go_big_quiet_step (fail)
  refine wpQuiet_nil fun w6 hb6 => ?_
  clear hne hcell
  obtain ⟨hc6, hf6⟩ := bcell hb6; have hz6_0 : w.heap.size < w6.heap.size := lt_below hb6 ltg; have hl6_0 := Nat.le_of_lt hz6_0; have hA6 := bnext (w0 := w) bgo hb6; have hs6 := hA6.size; clear hb6
  go_upto_region 11 with (first
    | (go_at_call 14; refine (c43 _).mono ?_; rintro r w7 ⟨rfl, hb7⟩; obtain ⟨hc7, hf7⟩ := bcell hb7; have hz7_0 : w.heap.size < w7.heap.size := lt_below hb7 ltg; have hl7_0 := Nat.le_of_lt hz7_0; have hA7 := bnext (w0 := w) bgo hb7; have hs7 := hA7.size; clear hb7)
    | fail)
  refine wp_whole (by kernel_rfl) (by kernel_rfl) fun hne hcell => ?_
  repeat go_big_quiet_step (fail)
  refine wpQuiet_nil fun w8 hb8 => ?_
  clear hne hcell
  obtain ⟨hc8, hf8⟩ := bcell hb8; have hz8_0 : w.heap.size < w8.heap.size := lt_below hb8 ltg; have hl8_0 := Nat.le_of_lt hz8_0; have hA8 := bnext (w0 := w) bgo hb8; have hs8 := hA8.size; clear hb8
  go_wp2
  go_ret
  exact ⟨by first | rfl | simp, bgo⟩
set_option maxHeartbeats 8000000 in
theorem nb21_Aen__ (B M : Nat) (hB : B < 18446744073709551616) (hand : bits .and .u64 (B : Int) 4294967295 = (M : Int)) (b1 b2 b3 : Int) (hb : ¬ (b1 = 0 ∧ b2 = 0 ∧ b3 = 0)) (h64 : FloatKind.f64.format.order x x = some .eq) (h32 : FloatKind.f32.format.order y y = none)
    (c37 : ∀ W, TT W → Calls Tryd.prog 8 #[.agg #[.int .u64 (B : Int), .int .u64 b1, .int .u64 b2, .int .u64 b3]] W fun r w' => (∃ z, r = .returned (.tuple #[.float .f64 z, .int .i64 1])) ∧ Below W.heap.size W w')
    (c38 : ∀ W, TT W → Calls Tryd.prog 9 #[.agg #[.int .u64 (B : Int), .int .u64 b1, .int .u64 b2, .int .u64 b3]] W fun r w' => (∃ z, r = .returned (.tuple #[.float .f32 z, .int .i64 1])) ∧ Below W.heap.size W w')
    (c40 : ∀ W, Calls Tryd.prog 11 #[.float .f64 x] W fun r w' => r = .returned (.agg #[.int .u64 (x : Int), .int .u64 0, .int .u64 0, .int .u64 0]) ∧ Below W.heap.size W w') :
    Calls Tryd.prog 3 #[.int .u64 (x : Int), .int .u32 (y : Int), .agg #[.int .u64 (B : Int), .int .u64 b1, .int .u64 b2, .int .u64 b3]] w fun r w' => r = .returned (.bool true) ∧ Below w.heap.size w w' := by
  have hsm := cell_set_map
  have e1 := eq24 (B : Int) b1 b2 b3 (B : Int) 0 0 0
  rw [decide_eq_false (fun h => hb h.2)] at e1
  have e2 := eq24 (B : Int) b1 b2 b3 (M : Int) 0 0 0
  rw [decide_eq_false (fun h => hb h.2)] at e2
  have e3 := eq24 (x : Int) 0 0 0 (x : Int) 0 0 0
  rw [decide_eq_true ⟨rfl, rfl, rfl, rfl⟩] at e3
  have e4 := eq24 (y : Int) 0 0 0 (y : Int) 0 0 0
  rw [decide_eq_true ⟨rfl, rfl, rfl, rfl⟩] at e4
  have x1 := run_f64 (x : Int)
  have x2 := run_f32 (y : Int)
  rw [Int.toNat_natCast] at x1 x2
  have x3 := run_b64 B
  have hn0 : ((none : Option Ordering) != some Ordering.eq) = true := rfl
  have x4 := run_b32 B
  have hwy : IntKind.u64.wrap (y : Int) = (y : Int) := by rw [IntKind.wrap_u64]; omega
  have hwB : IntKind.u64.wrap (B : Int) = (B : Int) := by rw [IntKind.wrap_u64]; omega
  go_enter Tryd.func3, Tryd.ntmps3
  go_upto_region 6 with (first
    | (go_at_call 7; refine (c8 _ (hTT _ _ hT bgo)).mono ?_; rintro r w1 ⟨rfl, hb1⟩; obtain ⟨hc1, hf1⟩ := bcell hb1; have hz1_0 : w.heap.size < w1.heap.size := lt_below hb1 ltg; have hl1_0 := Nat.le_of_lt hz1_0; have hA1 := bnext (w0 := w) bgo hb1; have hs1 := hA1.size; clear hb1)
    | (go_at_call 8; refine (c37 _ (hTT _ _ hT bgo)).mono ?_; rintro r w2 ⟨⟨z2, rfl⟩, hb2⟩; obtain ⟨hc2, hf2⟩ := bcell hb2; have hz2_0 : w.heap.size < w2.heap.size := lt_below hb2 ltg; have hl2_0 := Nat.le_of_lt hz2_0; have hA2 := bnext (w0 := w) bgo hb2; have hs2 := hA2.size; clear hb2)
    | (go_at_call 9; refine (c38 _ (hTT _ _ hT bgo)).mono ?_; rintro r w3 ⟨⟨z3, rfl⟩, hb3⟩; obtain ⟨hc3, hf3⟩ := bcell hb3; have hz3_0 : w.heap.size < w3.heap.size := lt_below hb3 ltg; have hl3_0 := Nat.le_of_lt hz3_0; have hA3 := bnext (w0 := w) bgo hb3; have hs3 := hA3.size; clear hb3))
  refine wp_whole (by kernel_rfl) (by kernel_rfl) fun hne hcell => ?_
  repeat go_big_quiet_step (fail)
  repeat go_big_quiet_step (fail)
  go_big_quiet_step ((go_at_call 11; exact calls_wd _ bk_next (c40 _)))
  repeat go_big_quiet_step (fail)
  refine wpQuiet_nil fun w6 hb6 => ?_
  clear hne hcell
  obtain ⟨hc6, hf6⟩ := bcell hb6; have hz6_0 : w.heap.size < w6.heap.size := lt_below hb6 ltg; have hl6_0 := Nat.le_of_lt hz6_0; have hA6 := bnext (w0 := w) bgo hb6; have hs6 := hA6.size; clear hb6
  go_upto_region 11 with (first
    | fail
    | fail)
  refine wp_whole (by kernel_rfl) (by kernel_rfl) fun hne hcell => ?_
  repeat go_big_quiet_step (fail)
  refine wpQuiet_nil fun w8 hb8 => ?_
  clear hne hcell
  obtain ⟨hc8, hf8⟩ := bcell hb8; have hz8_0 : w.heap.size < w8.heap.size := lt_below hb8 ltg; have hl8_0 := Nat.le_of_lt hz8_0; have hA8 := bnext (w0 := w) bgo hb8; have hs8 := hA8.size; clear hb8
  go_wp2
  go_ret
  exact ⟨by first | rfl | simp, bgo⟩
set_option maxHeartbeats 8000000 in
theorem nb21_Aee__ (B M : Nat) (hB : B < 18446744073709551616) (hand : bits .and .u64 (B : Int) 4294967295 = (M : Int)) (b1 b2 b3 : Int) (hb : ¬ (b1 = 0 ∧ b2 = 0 ∧ b3 = 0)) (h64 : FloatKind.f64.format.order x x = some .eq) (h32 : FloatKind.f32.format.order y y = some .eq)
    (c37 : ∀ W, TT W → Calls Tryd.prog 8 #[.agg #[.int .u64 (B : Int), .int .u64 b1, .int .u64 b2, .int .u64 b3]] W fun r w' => (∃ z, r = .returned (.tuple #[.float .f64 z, .int .i64 1])) ∧ Below W.heap.size W w')
    (c38 : ∀ W, TT W → Calls Tryd.prog 9 #[.agg #[.int .u64 (B : Int), .int .u64 b1, .int .u64 b2, .int .u64 b3]] W fun r w' => (∃ z, r = .returned (.tuple #[.float .f32 z, .int .i64 1])) ∧ Below W.heap.size W w')
    (c40 : ∀ W, Calls Tryd.prog 11 #[.float .f64 x] W fun r w' => r = .returned (.agg #[.int .u64 (x : Int), .int .u64 0, .int .u64 0, .int .u64 0]) ∧ Below W.heap.size W w')
    (c43 : ∀ W, Calls Tryd.prog 14 #[.float .f32 y] W fun r w' => r = .returned (.agg #[.int .u64 (y : Int), .int .u64 0, .int .u64 0, .int .u64 0]) ∧ Below W.heap.size W w') :
    Calls Tryd.prog 3 #[.int .u64 (x : Int), .int .u32 (y : Int), .agg #[.int .u64 (B : Int), .int .u64 b1, .int .u64 b2, .int .u64 b3]] w fun r w' => r = .returned (.bool true) ∧ Below w.heap.size w w' := by
  have hsm := cell_set_map
  have e1 := eq24 (B : Int) b1 b2 b3 (B : Int) 0 0 0
  rw [decide_eq_false (fun h => hb h.2)] at e1
  have e2 := eq24 (B : Int) b1 b2 b3 (M : Int) 0 0 0
  rw [decide_eq_false (fun h => hb h.2)] at e2
  have e3 := eq24 (x : Int) 0 0 0 (x : Int) 0 0 0
  rw [decide_eq_true ⟨rfl, rfl, rfl, rfl⟩] at e3
  have e4 := eq24 (y : Int) 0 0 0 (y : Int) 0 0 0
  rw [decide_eq_true ⟨rfl, rfl, rfl, rfl⟩] at e4
  have x1 := run_f64 (x : Int)
  have x2 := run_f32 (y : Int)
  rw [Int.toNat_natCast] at x1 x2
  have x3 := run_b64 B
  have hn0 : ((none : Option Ordering) != some Ordering.eq) = true := rfl
  have x4 := run_b32 B
  have hwy : IntKind.u64.wrap (y : Int) = (y : Int) := by rw [IntKind.wrap_u64]; omega
  have hwB : IntKind.u64.wrap (B : Int) = (B : Int) := by rw [IntKind.wrap_u64]; omega
  go_enter Tryd.func3, Tryd.ntmps3
  go_upto_region 6 with (first
    | (go_at_call 7; refine (c8 _ (hTT _ _ hT bgo)).mono ?_; rintro r w1 ⟨rfl, hb1⟩; obtain ⟨hc1, hf1⟩ := bcell hb1; have hz1_0 : w.heap.size < w1.heap.size := lt_below hb1 ltg; have hl1_0 := Nat.le_of_lt hz1_0; have hA1 := bnext (w0 := w) bgo hb1; have hs1 := hA1.size; clear hb1)
    | (go_at_call 8; refine (c37 _ (hTT _ _ hT bgo)).mono ?_; rintro r w2 ⟨⟨z2, rfl⟩, hb2⟩; obtain ⟨hc2, hf2⟩ := bcell hb2; have hz2_0 : w.heap.size < w2.heap.size := lt_below hb2 ltg; have hl2_0 := Nat.le_of_lt hz2_0; have hA2 := bnext (w0 := w) bgo hb2; have hs2 := hA2.size; clear hb2)
    | (go_at_call 9; refine (c38 _ (hTT _ _ hT bgo)).mono ?_; rintro r w3 ⟨⟨z3, rfl⟩, hb3⟩; obtain ⟨hc3, hf3⟩ := bcell hb3; have hz3_0 : w.heap.size < w3.heap.size := lt_below hb3 ltg; have hl3_0 := Nat.le_of_lt hz3_0; have hA3 := bnext (w0 := w) bgo hb3; have hs3 := hA3.size; clear hb3))
  refine wp_whole (by kernel_rfl) (by kernel_rfl) fun hne hcell => ?_
  repeat go_big_quiet_step (fail)
  repeat go_big_quiet_step (fail)
  go_big_quiet_step ((go_at_call 11; exact calls_wd _ bk_next (c40 _)))
  repeat go_big_quiet_step (fail)
  refine wpQuiet_nil fun w6 hb6 => ?_
  clear hne hcell
  obtain ⟨hc6, hf6⟩ := bcell hb6; have hz6_0 : w.heap.size < w6.heap.size := lt_below hb6 ltg; have hl6_0 := Nat.le_of_lt hz6_0; have hA6 := bnext (w0 := w) bgo hb6; have hs6 := hA6.size; clear hb6
  go_upto_region 11 with (first
    | (go_at_call 14; refine (c43 _).mono ?_; rintro r w7 ⟨rfl, hb7⟩; obtain ⟨hc7, hf7⟩ := bcell hb7; have hz7_0 : w.heap.size < w7.heap.size := lt_below hb7 ltg; have hl7_0 := Nat.le_of_lt hz7_0; have hA7 := bnext (w0 := w) bgo hb7; have hs7 := hA7.size; clear hb7)
    | fail)
  refine wp_whole (by kernel_rfl) (by kernel_rfl) fun hne hcell => ?_
  repeat go_big_quiet_step (fail)
  refine wpQuiet_nil fun w8 hb8 => ?_
  clear hne hcell
  obtain ⟨hc8, hf8⟩ := bcell hb8; have hz8_0 : w.heap.size < w8.heap.size := lt_below hb8 ltg; have hl8_0 := Nat.le_of_lt hz8_0; have hA8 := bnext (w0 := w) bgo hb8; have hs8 := hA8.size; clear hb8
  go_wp2
  go_ret
  exact ⟨by first | rfl | simp, bgo⟩
end
end
theorem fl_two : unD 4 4611686018427387904 = ⟨1, false, false, -51, 4503599627370496⟩ := by kernel_rfl
theorem fl_half {B : Nat} (hB : goodN 4 B) (hc : (unD 4 B).c = 1) (hk : (unD 4 B).k ≠ 0) (h1 : -1000 ≤ (unD 4 B).x) (h2 : (unD 4 B).x ≤ 900) :
    Ieee.double.div B 4611686018427387904 = some (rdV 4 0 (unD 4 B).s (unD 4 B).k 1 ((unD 4 B).x - 1)) := by
  obtain ⟨r1, _, _⟩ := fm_read fmt_4 hB
  obtain ⟨t1, _, _⟩ := fm_read fmt_4 (B := 4611686018427387904) ⟨by decide, by decide⟩
  rw [fl_two] at t1
  have t2 := t1 rfl
  dsimp only at t2
  have hi := und_is hB
  have hkb : (unD 4 B).k < 2 ^ 53 := by
    rcases hi with ⟨_, _, q, _⟩ | ⟨q, _⟩ | ⟨q, _⟩
    · exact q
    · rw [q] at hc; exact absurd hc (by decide)
    · rw [q] at hc; exact absurd hc (by decide)
  unfold Ieee.Format.div
  rw [r1 hc, t2]
  generalize (unD 4 B).k = k at *
  generalize (unD 4 B).s = s at *
  generalize (unD 4 B).x = x at *
  have hlog : k.log2 ≤ 52 := by
    have := (Nat.log2_lt hk).2 hkb
    omega
  obtain ⟨a, ha⟩ : ∃ a, a = 55 - k.log2 := ⟨_, rfl⟩
  have hm : Ieee.double.fractionBits + 2 + Nat.log2 4503599627370496 - k.log2 = a + 51 := by
    have e1 : Ieee.double.fractionBits = 52 := rfl
    have e2 : Nat.log2 4503599627370496 = 52 := by decide +kernel
    rw [e1, e2]
    omega
  unfold Ieee.Datum.quotient
  dsimp only
  rw [if_neg (by decide), hm, Nat.shiftLeft_eq]
  have hs : k * 2 ^ (a + 51) = k * 2 ^ (a - 1) * 4503599627370496 := by
    rw [show a + 51 = (a - 1) + 52 by omega, Nat.pow_add, ← Nat.mul_assoc]
  rw [hs, Nat.mul_div_cancel _ (by decide), Nat.mul_mod_left]
  have hN : 2 * (k * 2 ^ (a - 1)) + (0 != 0).toNat = k * 2 ^ a := by
    rw [show a = (a - 1) + 1 by omega, Nat.pow_succ]
    show 2 * (k * 2 ^ (a - 1 + 1 - 1)) + 0 = _
    rw [show a - 1 + 1 - 1 = a - 1 by omega, Nat.add_zero, ← Nat.mul_assoc, Nat.mul_comm 2, Nat.mul_assoc, Nat.mul_comm 2]
  rw [hN]
  have hx : x - -51 - ((a + 51 : Nat) : Int) - 1 = x - 1 - a := by omega
  rw [hx]
  have hs2 : (s ^^ false) = s := by cases s <;> rfl
  rw [hs2]
  show some (Ieee.double.nearest s (k * 2 ^ a) (x - 1 - a)) = _
  have hn0 : k * 2 ^ a ≠ 0 := Nat.mul_ne_zero hk (Nat.pos_iff_ne_zero.1 (Nat.two_pow_pos a))
  have hbl : bl (k * 2 ^ a) ≤ 108 := by
    refine bl_le.2 ?_
    have h3 : (2 : Nat) ^ a ≤ 2 ^ 55 := Nat.pow_le_pow_right (by decide) (by omega)
    have h4 : k * 2 ^ a ≤ k * 2 ^ 55 := Nat.mul_le_mul_left _ h3
    have h5 : k * 2 ^ 55 < 2 ^ 53 * 2 ^ 55 := Nat.mul_lt_mul_of_pos_right hkb (by decide)
    have h6 : (2 : Nat) ^ 53 * 2 ^ 55 = 2 ^ 108 := by decide
    omega
  have hl := bl_log fmt_4 hn0
  have hX : rX 4 (k * 2 ^ a) 1 (x - 1 - a) = x - 1 - a := by
    unfold rX wiZ
    rw [ld_log fmt_4 hn0, show leastN 4 = -1074 by decide, show mostN 4 = 971 by decide, show fN 4 = 52 by decide]
    omega
  rw [fm_near fmt_4 s hn0 hX]
  have h := (rd_shift 4 0 s k (D := 1) (by decide) a 0 (x - 1 - a)).1
  rw [Nat.pow_zero, Nat.mul_one, show x - 1 - (a : Int) + ((a : Int) - ((0 : Nat) : Int)) = x - 1 by omega] at h
  rw [h]
theorem fl_sg (m u : Nat) : Ieee.signed false m u = ((m * 2 ^ u : Nat) : Int) := by
  unfold Ieee.signed
  rw [if_neg (by decide), Nat.shiftLeft_eq]
/-- two float64s that are not negative, added as the model has it: the exact sum, rounded -/
theorem fl_sum {A B : Nat} (hA : goodN 4 A) (hB : goodN 4 B) (cA : (unD 4 A).c = 1) (cB : (unD 4 B).c = 1) (sA : (unD 4 A).s = false) (sB : (unD 4 B).s = false) (xA : (unD 4 A).x ≤ 800) (xB : (unD 4 B).x ≤ 800)
    (b : Int) (hb : b = min (unD 4 A).x (unD 4 B).x) (T : Nat) (hT : T = (unD 4 A).k * 2 ^ ((unD 4 A).x - b).toNat + (unD 4 B).k * 2 ^ ((unD 4 B).x - b).toNat) (hT0 : T ≠ 0) :
    Ieee.double.add A B = some (rdV 4 0 false T 1 b) := by
  obtain ⟨r1, _, _⟩ := fm_read fmt_4 hA
  obtain ⟨t1, _, _⟩ := fm_read fmt_4 hB
  have key : ∀ C, goodN 4 C → (unD 4 C).c = 1 → (unD 4 C).k < 2 ^ 53 ∧ -1074 ≤ (unD 4 C).x := by
    intro C hC hc
    rcases und_is hC with ⟨_, _, q, q2, _⟩ | ⟨q, _⟩ | ⟨q, _⟩
    · exact ⟨q, q2⟩
    · rw [q] at hc; exact absurd hc (by decide)
    · rw [q] at hc; exact absurd hc (by decide)
  obtain ⟨kA, lA⟩ := key A hA cA
  obtain ⟨kB, lB⟩ := key B hB cB
  unfold Ieee.Format.add
  rw [r1 cA, t1 cB, sA, sB]
  clear r1 t1 key
  generalize (unD 4 A).k = k at *
  generalize (unD 4 A).x = x at *
  generalize (unD 4 B).k = l at *
  generalize (unD 4 B).x = y at *
  unfold Ieee.Datum.sum
  dsimp only
  rw [← hb, fl_sg, fl_sg, ← Int.natCast_add, ← hT]
  rw [if_neg (by omega), decide_eq_false (by omega), Int.natAbs_natCast]
  show some (Ieee.double.nearest false T b) = _
  obtain ⟨g, hg⟩ : ∃ g : Nat, (g : Int) = max x y - b := ⟨(max x y - b).toNat, by omega⟩
  have hbl : bl T ≤ 56 + g := by
    refine bl_le.2 ?_
    have h3 : (2 : Nat) ^ (x - b).toNat ≤ 2 ^ g := Nat.pow_le_pow_right (by decide) (by omega)
    have h4 : (2 : Nat) ^ (y - b).toNat ≤ 2 ^ g := Nat.pow_le_pow_right (by decide) (by omega)
    have h5 : k * 2 ^ (x - b).toNat ≤ 2 ^ 53 * 2 ^ g := Nat.mul_le_mul (Nat.le_of_lt kA) h3
    have h6 : l * 2 ^ (y - b).toNat ≤ 2 ^ 53 * 2 ^ g := Nat.mul_le_mul (Nat.le_of_lt kB) h4
    have h8 : 0 < (2 : Nat) ^ g := Nat.two_pow_pos _
    rw [Nat.pow_add]
    omega
  have hl := bl_log fmt_4 hT0
  rw [fm_near fmt_4 false hT0]
  unfold rX wiZ
  rw [ld_log fmt_4 hT0, show leastN 4 = -1074 by decide, show mostN 4 = 971 by decide, show fN 4 = 52 by decide]
  omega
theorem fl_is4 {N : Nat} (h0 : N ≠ 0) (hb : bl N ≤ 53) {x : Int} (h1 : -900 ≤ x) (h2 : x ≤ 900) : isD (fN 4) (leastN 4) (mostN 4) ⟨1, false, false, x - (53 - bl N : Nat), N * 2 ^ (53 - bl N)⟩ := by
  have hf : fN 4 = 52 := by decide
  have hl : leastN 4 = -1074 := by decide
  have hm : mostN 4 = 971 := by decide
  have a1 : N < 2 ^ bl N := bl_le.1 (Nat.le_refl _)
  have a2 : 2 ^ (bl N - 1) ≤ N := by
    have h : ¬ bl N ≤ bl N - 1 ∨ bl N = 0 := by omega
    rcases h with h | h
    · have := mt bl_le.2 h
      omega
    · rw [h] at a1
      omega
  have hb0 : 1 ≤ bl N := by
    rcases Nat.eq_zero_or_pos (bl N) with h | h
    · rw [h] at a1
      omega
    · exact h
  have e1 : 2 ^ bl N * 2 ^ (53 - bl N) = 2 ^ 53 := by rw [← Nat.pow_add, show bl N + (53 - bl N) = 53 by omega]
  have e2 : 2 ^ (bl N - 1) * 2 ^ (53 - bl N) = 2 ^ 52 := by rw [← Nat.pow_add, show bl N - 1 + (53 - bl N) = 52 by omega]
  have u1 := Nat.mul_lt_mul_of_pos_right a1 (Nat.two_pow_pos (53 - bl N))
  have u2 := Nat.mul_le_mul_right (2 ^ (53 - bl N)) a2
  rw [e1] at u1
  rw [e2] at u2
  refine Or.inl ⟨rfl, rfl, ?_, ?_, ?_, Or.inl ?_⟩
  · rw [hf]; exact u1
  · rw [hl]; dsimp only; omega
  · rw [hm]; dsimp only; omega
  · rw [hf]; exact u2
/-- a sum that a float64 has, halved and narrowed -/
theorem fl_mid {N : Nat} (h0 : N ≠ 0) (hb : bl N ≤ 53) {x : Int} (h1 : -800 ≤ x) (h2 : x ≤ 800) :
    goodN 4 (rdV 4 0 false N 1 x) ∧ ∃ Mi, Ieee.double.div (rdV 4 0 false N 1 x) 4611686018427387904 = some Mi ∧ goodN 4 Mi ∧ (unD 4 Mi).c = 1 ∧ cvV 3 0 (unD 4 Mi) = rdV 3 0 false N 1 (x - 1) ∧ cvF 3 0 (unD 4 Mi) = rdF 3 0 false N 1 (x - 1) := by
  have i1 := fl_is4 h0 hb (x := x) (by omega) (by omega)
  have i2 := fl_is4 h0 hb (x := x - 1) (by omega) (by omega)
  have a1 := cv_alike 4 0 false (x := x) (q := x - (53 - bl N : Nat)) (k := N) (c := N * 2 ^ (53 - bl N)) (Or.inr ⟨h0, _, rfl, rfl⟩)
  have a2 := cv_alike 4 0 false (x := x - 1) (q := x - 1 - (53 - bl N : Nat)) (k := N) (c := N * 2 ^ (53 - bl N)) (Or.inr ⟨h0, _, rfl, rfl⟩)
  have a3 := cv_alike 3 0 false (x := x - 1) (q := x - 1 - (53 - bl N : Nat)) (k := N) (c := N * 2 ^ (53 - bl N)) (Or.inr ⟨h0, _, rfl, rfl⟩)
  have k1 := (cv_keep 0 (n := 4) (by decide) i1).1
  have k2 := (cv_keep 0 (n := 4) (by decide) i2).1
  obtain ⟨g1, u1⟩ := pk_good (n := 4) (by decide) i1
  obtain ⟨g2, u2⟩ := pk_good (n := 4) (by decide) i2
  have hc0 : N * 2 ^ (53 - bl N) ≠ 0 := Nat.mul_ne_zero h0 (Nat.pos_iff_ne_zero.1 (Nat.two_pow_pos _))
  rw [← a1.1, k1]
  refine ⟨g1, _, ?_, g2, by rw [u2], ?_, ?_⟩
  · have h := fl_half g1 (by rw [u1]) (by rw [u1]; exact hc0) (by rw [u1]; dsimp only; omega) (by rw [u1]; dsimp only; omega)
    rw [h, u1]
    dsimp only
    rw [show x - ((53 - bl N : Nat) : Int) - 1 = x - 1 - ((53 - bl N : Nat) : Int) by omega, k2]
  · rw [u2, ← a3.1]
    rfl
  · rw [u2, ← a3.2]
    rfl
/-- what two neighbours come to -/
theorem fl_T {k k' kA kB : Nat} {x x' xA xB b : Int} (hv : (k' = k + 1 ∧ x' = x) ∨ (k' * 2 = k + 1 ∧ x' = x + 1)) (hA : (k = 0 ∧ kA = 0) ∨ (k ≠ 0 ∧ ∃ j : Nat, kA = k * 2 ^ j ∧ xA = x - j)) (hB : ∃ j : Nat, kB = k' * 2 ^ j ∧ xB = x' - j) (hbA : b ≤ xA) (hbB : b ≤ xB) (hbx : b ≤ x) :
    kA * 2 ^ (xA - b).toNat + kB * 2 ^ (xB - b).toNat = (2 * k + 1) * 2 ^ (x - b).toNat := by
  have eA : kA * 2 ^ (xA - b).toNat = k * 2 ^ (x - b).toNat := by
    rcases hA with ⟨rfl, rfl⟩ | ⟨_, j, rfl, rfl⟩
    · rw [Nat.zero_mul, Nat.zero_mul]
    · rw [Nat.mul_assoc, ← Nat.pow_add, show j + (x - (j : Int) - b).toNat = (x - b).toNat by omega]
  have eB : kB * 2 ^ (xB - b).toNat = (k + 1) * 2 ^ (x - b).toNat := by
    obtain ⟨j, rfl, rfl⟩ := hB
    rw [Nat.mul_assoc, ← Nat.pow_add, show j + (x' - (j : Int) - b).toNat = (x' - b).toNat by omega]
    rcases hv with ⟨rfl, rfl⟩ | ⟨h, rfl⟩
    · rfl
    · rw [show (x + 1 - b).toNat = 1 + (x - b).toNat by omega, Nat.pow_add, ← Nat.mul_assoc, Nat.pow_one, h]
  rw [eA, eB, ← Nat.add_mul, show k + (k + 1) = 2 * k + 1 by omega]
section
attribute [local irreducible] W4 Nz Nt NT
def TU2 (X : Nat) (v : Value) (w : World) : Prop := ∃ q, v = .tuple #[q, .int .i64 0] ∧ NT 2001 X q w
theorem TU2.next {X : Nat} {v : Value} {w w' : World} (h : TU2 X v w) (hb : Below w.heap.size w w') : TU2 X v w' := by
  obtain ⟨q, e, hq⟩ := h
  exact ⟨q, e, hq.next hb⟩
end
section
attribute [local irreducible] W4 NT NV
section
variable {a : Act} {w : World} {K : Act → World → Prop} {Q : Exit → Act → World → Prop} {d p : Nat} {ty : TypeId} {pos : String} {after : Array Edge} {gd : Option (Nat × Bool)}
end
def TW2 (X Y : Nat) (v : Value) (w : World) : Prop := ∃ a b, v = .tuple #[a, b] ∧ NT 7000 X a w ∧ NT 7000 Y b w
theorem TW2.next {X Y : Nat} {v : Value} {w w' : World} (h : TW2 X Y v w) (hb : Below w.heap.size w w') : TW2 X Y v w' := by
  obtain ⟨a, b, e, h1, h2⟩ := h
  exact ⟨a, b, e, h1.next hb, h2.next hb⟩
end
/-- a datum's pattern without the sign -/
def mg (n : Int) (d : Dat) : Nat := if d.c = 2 then tpN n else (d.x - leastN n).toNat * 2 ^ fN n + d.k
theorem top_is {n : Int} (hb : binN n) : tpN n = (mostN n - leastN n).toNat * 2 ^ fN n + 2 ^ (fN n + 1) ∧ tpN n + 2 ^ fN n = 2 ^ (fN n + eN n) ∧ leastN n ≤ mostN n := by
  rcases bin_cases hb with rfl | rfl | rfl | rfl | rfl | rfl <;> decide +kernel
theorem mg_fin {n : Int} (hb : binN n) {s : Bool} {x : Int} {k : Nat} (h : isD (fN n) (leastN n) (mostN n) ⟨1, s, false, x, k⟩) :
    mg n ⟨1, s, false, x, k⟩ = (x - leastN n).toNat * 2 ^ fN n + k ∧ mg n ⟨1, s, false, x, k⟩ < tpN n ∧ leastN n ≤ x ∧ x ≤ mostN n ∧ k < 2 ^ (fN n + 1) ∧ (2 ^ fN n ≤ k ∨ x = leastN n) := by
  have e : mg n ⟨1, s, false, x, k⟩ = (x - leastN n).toNat * 2 ^ fN n + k := if_neg (show ¬ (1 : Int) = 2 by decide)
  rcases h with ⟨_, _, h3, h4, h5, h6⟩ | ⟨h1, _⟩ | ⟨h1, _⟩
  · refine ⟨e, ?_, h4, h5, h3, h6⟩
    dsimp only at h3 h4 h5
    obtain ⟨t1, _, _⟩ := top_is hb
    rw [e, t1]
    have : (x - leastN n).toNat * 2 ^ fN n ≤ (mostN n - leastN n).toNat * 2 ^ fN n := Nat.mul_le_mul_right _ (by omega)
    omega
  · exact absurd (show (1 : Int) = 2 from h1) (by decide)
  · exact absurd (show (1 : Int) = 3 from h1) (by decide)
/-- a pattern is its sign and what is below it -/
theorem mg_pk {n : Int} (hb : binN n) {d : Dat} (h : isD (fN n) (leastN n) (mostN n) d) (h3 : d.c ≠ 3) : pkV n d = mg n d + sgN n d.s ∧ mg n d ≤ tpN n := by
  obtain ⟨c, s, g, x, k⟩ := d
  rcases id h with ⟨h1, h2, _⟩ | ⟨h1, h2, h4, h5⟩ | ⟨h1, _⟩
  · dsimp only at h1 h2
    subst h1 h2
    obtain ⟨e1, e2, _⟩ := mg_fin hb h
    exact ⟨by rw [pk_fin hb h, e1], by omega⟩
  · dsimp only at h1 h2 h4 h5
    subst h1 h2 h4 h5
    exact ⟨pk_inf hb, Nat.le_refl _⟩
  · exact absurd h1 h3
theorem mg_lt {F e e' k k' : Nat} (h1 : k < F + F) (h2 : F ≤ k' ∨ e' = 0) (he : e < e') : e * F + k < e' * F + k' ∧ k * 2 ^ e < k' * 2 ^ e' := by
  have hF : F ≤ k' := h2.resolve_right (by omega)
  constructor
  · have : (e + 1) * F ≤ e' * F := Nat.mul_le_mul_right _ he
    rw [Nat.add_mul, Nat.one_mul] at this
    omega
  · have hp := Nat.two_pow_pos e
    have a : k * 2 ^ e < (F + F) * 2 ^ e := Nat.mul_lt_mul_of_pos_right h1 hp
    have b : F * 2 ^ (e + 1) ≤ k' * 2 ^ e' := Nat.mul_le_mul hF (Nat.pow_le_pow_right (by decide) he)
    have c : (F + F) * 2 ^ e = F * 2 ^ (e + 1) := by rw [Nat.pow_succ, Nat.add_mul, ← Nat.mul_assoc]; omega
    omega
/-- finite numbers, by their patterns -/
theorem mg_cmp {n : Int} (hb : binN n) {s s' : Bool} {x x' : Int} {k k' : Nat} (h : isD (fN n) (leastN n) (mostN n) ⟨1, s, false, x, k⟩) (h' : isD (fN n) (leastN n) (mostN n) ⟨1, s', false, x', k'⟩) :
    sgn (oI (leastN n) 2 ⟨1, s, false, x, k⟩ : Int) (oI (leastN n) 2 ⟨1, s', false, x', k'⟩ : Int) = sgn (mg n ⟨1, s, false, x, k⟩ : Int) (mg n ⟨1, s', false, x', k'⟩ : Int) := by
  obtain ⟨e1, _, a1, a2, a3, a4⟩ := mg_fin hb h
  obtain ⟨e1', _, b1, b2, b3, b4⟩ := mg_fin hb h'
  rw [e1, e1']
  show sgn ((k * 2 ^ (x - leastN n).toNat : Nat) : Int) ((k' * 2 ^ (x' - leastN n).toNat : Nat) : Int) = _
  have hF : (2 : Nat) ^ (fN n + 1) = 2 ^ fN n + 2 ^ fN n := by rw [Nat.pow_succ]; omega
  rw [hF] at a3 b3
  have a4' : 2 ^ fN n ≤ k ∨ (x - leastN n).toNat = 0 := by rcases a4 with q | q; exact Or.inl q; exact Or.inr (by omega)
  have b4' : 2 ^ fN n ≤ k' ∨ (x' - leastN n).toNat = 0 := by rcases b4 with q | q; exact Or.inl q; exact Or.inr (by omega)
  generalize (x - leastN n).toNat = e at *
  generalize (x' - leastN n).toNat = e' at *
  generalize 2 ^ fN n = F at *
  rcases Nat.lt_trichotomy e e' with q | q | q
  · obtain ⟨p1, p2⟩ := mg_lt a3 b4' q
    unfold sgn
    rw [if_pos (by omega), if_pos (by omega)]
  · subst q
    have hp := Nat.two_pow_pos e
    rw [sgn_nat _ hp, Int.natCast_add, Int.natCast_add, Int.add_comm _ (k : Int), Int.add_comm _ (k' : Int), sgn_add]
  · obtain ⟨p1, p2⟩ := mg_lt b3 a4' q
    unfold sgn
    rw [if_neg (by omega), if_pos (by omega), if_neg (by omega), if_pos (by omega)]
/-- a number's place -/
def smP (n : Int) (d : Dat) : Int := oG d * (mg n d : Int)
/-- every pattern up to the infinite one's is a number's -/
theorem pat_is {n : Int} (hb : binN n) (s : Bool) {M : Nat} (hM : M ≤ tpN n) : goodN n (M + sgN n s) ∧ (unD n (M + sgN n s)).c ≠ 3 ∧ mg n (unD n (M + sgN n s)) = M ∧ (unD n (M + sgN n s)).s = s ∧ ((unD n (M + sgN n s)).c = 2 ↔ M = tpN n) := by
  obtain ⟨t1, t2, t3⟩ := top_is hb
  have hp0 := Nat.two_pow_pos (fN n)
  have hp : (2 : Nat) ^ (fN n + 1) = 2 ^ fN n + 2 ^ fN n := by rw [Nat.pow_succ]; omega
  by_cases h : M = tpN n
  · have hi : isD (fN n) (leastN n) (mostN n) ⟨2, s, false, 0, 0⟩ := Or.inr (Or.inl ⟨rfl, rfl, rfl, rfl⟩)
    obtain ⟨g1, g2⟩ := pk_good hb hi
    rw [pk_inf hb, ← h] at g1 g2
    rw [g2]
    exact ⟨g1, by show (2 : Int) ≠ 3; decide, by rw [h]; exact if_pos rfl, rfl, ⟨fun _ => h, fun _ => rfl⟩⟩
  · have hlt : M < tpN n := by omega
    have hdm := Nat.div_add_mod M (2 ^ fN n)
    have hmod := Nat.mod_lt M hp0
    generalize hE : M / 2 ^ fN n = E at *
    generalize hR : M % 2 ^ fN n = R at *
    rw [Nat.mul_comm] at hdm
    obtain ⟨x, k, hi, hv⟩ : ∃ (x : Int) (k : Nat), isD (fN n) (leastN n) (mostN n) ⟨1, s, false, x, k⟩ ∧ (x - leastN n).toNat * 2 ^ fN n + k = M := by
      by_cases h0 : E = 0
      · subst h0
        refine ⟨leastN n, M, Or.inl ⟨rfl, rfl, show M < 2 ^ (fN n + 1) by omega, Int.le_refl _, t3, Or.inr rfl⟩, ?_⟩
        rw [Int.sub_self]
        simp
      · obtain ⟨e, rfl⟩ : ∃ e, E = e + 1 := ⟨E - 1, by omega⟩
        rw [Nat.add_mul, Nat.one_mul] at hdm
        have hx : (e : Int) ≤ mostN n - leastN n := by
          refine Classical.byContradiction fun q => ?_
          have : ((mostN n - leastN n).toNat + 1) * 2 ^ fN n ≤ e * 2 ^ fN n := Nat.mul_le_mul_right _ (by omega)
          rw [Nat.add_mul, Nat.one_mul] at this
          omega
        refine ⟨leastN n + e, 2 ^ fN n + R, Or.inl ⟨rfl, rfl, show 2 ^ fN n + R < 2 ^ (fN n + 1) by omega, show leastN n ≤ leastN n + e by omega, show leastN n + e ≤ mostN n by omega, Or.inl (show 2 ^ fN n ≤ 2 ^ fN n + R by omega)⟩, ?_⟩
        rw [show (leastN n + (e : Int) - leastN n).toNat = e by omega]
        omega
    obtain ⟨g1, g2⟩ := pk_good hb hi
    rw [pk_fin hb hi, hv] at g1 g2
    rw [g2]
    have e1 := (mg_fin hb hi).1
    exact ⟨g1, by show (1 : Int) ≠ 3; decide, by rw [e1, hv], rfl, ⟨fun q => absurd (show (1 : Int) = 2 from q) (by decide), fun q => absurd q h⟩⟩
/-- the place of a pattern -/
def sg (n : Int) (B : Nat) : Int := smP n (unD n B)
theorem nativeWidens_any (y d : Int) (w : World) (hT : Tab w) (hy : 0 ≤ y ∧ y ≤ 4294967295) :
    Calls Tryd.prog 5 #[.int .u32 y, .int .i64 d] w fun r w' => r = .returned (.bool true) ∧ Below w.heap.size w w' := by
  obtain ⟨Y, rfl⟩ : ∃ Y : Nat, y = (Y : Int) := ⟨y.toNat, by omega⟩
  exact widens21_v natN (fun _ h => h) Y d w hT (by omega)
end Go.Proofs.YtpemdcnneabbfaaDoor
