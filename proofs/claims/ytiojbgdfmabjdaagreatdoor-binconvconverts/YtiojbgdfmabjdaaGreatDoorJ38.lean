/-
  Texts that the proof leans on.
-/
import Derived.Test.YtiojbgdfmabjdaaGreatDoorJ31
import Derived.Test.YtiojbgdfmabjdaaGreatDoorJ36
import Derived.Test.YtiojbgdfmabjdaaGreatDoorJ28
import Derived.Test.YtiojbgdfmabjdaaGreatDoorJ29
import Derived.Test.YtiojbgdfmabjdaaGreatDoorJ16
import Derived.Test.YtiojbgdfmabjdaaGreatDoorJ5
import Derived.Test.YtiojbgdfmabjdaaGreatDoorJ33
import Derived.Test.YtiojbgdfmabjdaaGreatDoorJ21
import Derived.Test.YtiojbgdfmabjdaaGreatDoorJ26
import Derived.Test.YtiojbgdfmabjdaaGreatDoorJ8
import Derived.Test.YtiojbgdfmabjdaaGreatDoorJ18
import Derived.Test.YtiojbgdfmabjdaaGreatDoorJ17
import Derived.Test.YtiojbgdfmabjdaaGreatDoorJ7
import Derived.Test.YtiojbgdfmabjdaaGreatDoorJ19
import Derived.Test.YtiojbgdfmabjdaaGreatDoorJ34
import Derived.Test.YtiojbgdfmabjdaaGreatDoorJ4
import Derived.Test.YtiojbgdfmabjdaaGreatDoorJ30
import Derived.Test.YtiojbgdfmabjdaaGreatDoorJ23
import Derived.Test.YtiojbgdfmabjdaaGreatDoorJ37
set_option linter.unusedVariables false
set_option linter.unusedSectionVars false
set_option linter.unusedSimpArgs false
set_option maxRecDepth 20000
namespace Go.Proofs.YtiojbgdfmabjdaaGreatDoor
open Go.RowKit
section
theorem NT.tight {K K' V : Nat} {v : Value} {w : World} (h : NT K V v w) (hb : bl V ≤ 64 * K') : NT K' V v w := by
  obtain ⟨g, k, cap, z, h1, h2, h3, h4, h5⟩ := h
  exact ⟨g, k, cap, z, h1, by have := (size_bl (m := K') h3.2.2.1 h4).2 hb; omega, h3, h4, h5⟩
section
variable (x : Int) (vn vd : Value) (A KK : Nat) (w : World) (hx : -12000 ≤ x ∧ x ≤ 12000)
include hx
end
attribute [local irreducible] W4 NT NV
end
theorem tnE_find {N D : Nat} (lo : Int) (h : tnG N D lo) : ∀ k : Nat, ¬ tnG N D (lo + k) → ∃ E, TnE N D E
  | 0, h' => absurd (by simpa using h) h'
  | k + 1, h' => by
    by_cases hk : tnG N D (lo + k)
    · exact ⟨lo + k, hk, by rw [show lo + (k : Int) + 1 = lo + ((k + 1 : Nat) : Int) by omega]; exact h'⟩
    · exact tnE_find lo h k hk
theorem tnE_ex {N D : Nat} (hN : 0 < N) (hD : 0 < D) : ∃ E, TnE N D E := by
  refine tnE_find (-(D : Int)) ?_ (N + D) ?_
  · unfold tnG
    rw [show (-(D : Int)).toNat = 0 by omega, Int.neg_neg, Int.toNat_natCast, Nat.pow_zero, Nat.mul_one]
    have h1 : D < 10 ^ D := Nat.lt_pow_self (by decide)
    exact Nat.le_trans (Nat.le_of_lt h1) (Nat.le_mul_of_pos_left _ hN)
  · rw [show -(D : Int) + ((N + D : Nat) : Int) = (N : Int) by omega]
    unfold tnG
    rw [show (-(N : Int)).toNat = 0 by omega, Int.toNat_natCast, Nat.pow_zero, Nat.mul_one]
    have h1 : N < 10 ^ N := Nat.lt_pow_self (by decide)
    have h2 : 10 ^ N ≤ D * 10 ^ N := Nat.le_mul_of_pos_left _ hD
    omega
/-- the exponent as the document takes it -/
def clT (x : Int) : Int := min (max x (-20000)) 20000
/-- the exponent of a fraction's first digit -/
noncomputable def tnX (N D : Nat) : Int := open Classical in if h : ∃ E, TnE N D E then Classical.choose h else 0
theorem tnX_is {N D : Nat} (hN : 0 < N) (hD : 0 < D) : TnE N D (tnX N D) := by
  have h := tnE_ex hN hD
  unfold tnX
  rw [dif_pos h]
  exact Classical.choose_spec h
/-- what decround answers -/
def rqE (n d : Int) (N D : Nat) : Int := if decN n ∧ knB d ∧ D ≠ 0 then (if 25600 < bl N ∨ 25600 < bl D then 4 else 0) else 1
noncomputable def rqD (n d : Int) (s : Bool) (N D : Nat) (x y : Int) : Dat :=
  if rqE n d N D = 0 then (if N = 0 then ⟨1, s, false, min (max y (fD n).l) (fD n).m, 0⟩ else dkD (fD n) d s (N * 10 ^ (clT x).toNat) (D * 10 ^ (-(clT x)).toNat) (tnX (N * 10 ^ (clT x).toNat) (D * 10 ^ (-(clT x)).toNat)) y) else ⟨0, false, false, 0, 0⟩
noncomputable def rqF (n d : Int) (s : Bool) (N D : Nat) (x : Int) : Int :=
  if rqE n d N D = 0 then (if N = 0 then 0 else dkF (fD n) d s (N * 10 ^ (clT x).toNat) (D * 10 ^ (-(clT x)).toNat) (tnX (N * 10 ^ (clT x).toNat) (D * 10 ^ (-(clT x)).toNat))) else 0
section
theorem tnX_eq {N D : Nat} {E : Int} (hN : 0 < N) (hD : 0 < D) (h : TnE N D E) : tnX N D = E := (tnX_is hN hD).only h
theorem third : rqD 7 0 false 1 3 0 0 = ⟨1, false, false, -7, 3333333⟩ ∧ rqF 7 0 false 1 3 0 = 8 ∧ rqE 7 0 1 3 = 0 := by
  have e0 : rqE 7 0 1 3 = 0 := by
    have b1 : bl 1 ≤ 2 := bl_le.2 (by decide)
    have b3 : bl 3 ≤ 2 := bl_le.2 (by decide)
    unfold rqE
    rw [if_pos ⟨by unfold decN; omega, by unfold knB; omega, by decide⟩, if_neg (by omega)]
  have eX : tnX (1 * 10 ^ (clT 0).toNat) (3 * 10 ^ (-(clT 0)).toNat) = -1 := tnX_eq (by decide) (by decide) ⟨by decide, by decide⟩
  refine ⟨?_, ?_, e0⟩
  · unfold rqD
    rw [if_pos e0, if_neg (by decide), eX]
    have h1 : (dkD (fD 7) 0 false (1 * 10 ^ (clT 0).toNat) (3 * 10 ^ (-(clT 0)).toNat) (-1) 0).c = 1 ∧ (dkD (fD 7) 0 false (1 * 10 ^ (clT 0).toNat) (3 * 10 ^ (-(clT 0)).toNat) (-1) 0).s = false ∧ (dkD (fD 7) 0 false (1 * 10 ^ (clT 0).toNat) (3 * 10 ^ (-(clT 0)).toNat) (-1) 0).g = false ∧ (dkD (fD 7) 0 false (1 * 10 ^ (clT 0).toNat) (3 * 10 ^ (-(clT 0)).toNat) (-1) 0).x = -7 ∧ (dkD (fD 7) 0 false (1 * 10 ^ (clT 0).toNat) (3 * 10 ^ (-(clT 0)).toNat) (-1) 0).k = 3333333 := by decide +kernel
    generalize dkD (fD 7) 0 false (1 * 10 ^ (clT 0).toNat) (3 * 10 ^ (-(clT 0)).toNat) (-1) 0 = R at h1 ⊢
    obtain ⟨c, s, g, x, k⟩ := R
    simp only at h1
    obtain ⟨rfl, rfl, rfl, rfl, rfl⟩ := h1
    rfl
  · unfold rqF
    rw [if_pos e0, if_neg (by decide), eX]
    decide +kernel
attribute [local irreducible] W4 Nt
end
/-- a word of the program's integers -/
def i6 (x : Int) : Prop := -9223372036854775808 ≤ x ∧ x ≤ 9223372036854775807
section
theorem dat_box {w0 w : World} {c x : Int} {s g : Bool} {k : Nat} {t : TypeId} (hk : k < 2 ^ 256)
    (hb : Below (w0.alloc (.cells #[.int .i64 c, .bool s, .bool g, .int .i64 x, .int .u64 (W4 k 0), .int .u64 (W4 k 1), .int .u64 (W4 k 2), .int .u64 (W4 k 3)] t)).heap.size (w0.alloc (.cells #[.int .i64 c, .bool s, .bool g, .int .i64 x, .int .u64 (W4 k 0), .int .u64 (W4 k 1), .int .u64 (W4 k 2), .int .u64 (W4 k 3)] t)) w) :
    Nt 4 k (.slice (some ⟨w0.heap.size, 4, none⟩) 4 4) w := by
  have hs : w0.heap.size < (w0.alloc (.cells #[.int .i64 c, .bool s, .bool g, .int .i64 x, .int .u64 (W4 k 0), .int .u64 (W4 k 1), .int .u64 (W4 k 2), .int .u64 (W4 k 3)] t)).heap.size := by simp
  refine ⟨_, 4, 4, lowW (W4 k) 4, rfl, Nat.le_refl _, ⟨Nat.le_refl _, by unfold maxLen; omega, ?_, ?_, Or.inr ⟨w0.heap.size, 4, rfl, Nat.lt_of_lt_of_le hs hb.size, ?_⟩⟩, ?_⟩
  · intro i
    by_cases hi : i < 4
    · rw [lowW_lt hi]; exact W4_words k i
    · rw [show lowW (W4 k) 4 i = 0 from if_neg hi]; exact ⟨Int.le_refl _, by decide⟩
  · intro i hi
    exact if_neg (by omega)
  · intro i hi
    rw [lowW_lt hi, hb.cell (p := ⟨w0.heap.size, 4 + i, none⟩) hs]
    have : i = 0 ∨ i = 1 ∨ i = 2 ∨ i = 3 := by omega
    rw [World.cell?_alloc_new]
    rcases this with rfl | rfl | rfl | rfl <;> rfl
  · rw [val_congr (x := lowW (W4 k) 4) (y := W4 k) 4 (fun i hi => lowW_lt hi), W4_val4 hk]
attribute [local irreducible] W4 Nt
end
section
attribute [local irreducible] W4 Nz Nt NT
section
variable (t ba d : Int) (num wi pr ex le mo pa : Int) (nm : ByteArray) (de : Bool) (w : World) (hT : Tab w)
include hT
set_option maxHeartbeats 2000000 in
theorem stg_e (b0 : Int)
    (c2 : ∀ W, Tab W → Calls Tryz.prog 23 #[.int .i64 t] W fun r w' => r = .returned (.tuple #[.agg #[.int .i64 num, .string nm, .int .i64 b0, .int .i64 wi, .int .i64 pr, .int .i64 ex, .int .i64 le, .int .i64 mo, .int .i64 pa, .bool de], .int .i64 1]) ∧ Below W.heap.size W w') :
    Calls Tryz.prog 8 #[.int .i64 t, .int .i64 ba, .int .i64 d] w fun r w' => r = .returned (.tuple #[IZ, .int .i64 1]) ∧ Below w.heap.size w w' := by
  have hsm := cell_set_map
  go_enter Tryz.func8, Tryz.ntmps8
  go_wp2_with (go_at_call 23; refine (c2 _ (hT.go bgo)).mono ?_; rintro r w1 ⟨rfl, hb1⟩; obtain ⟨hc1, hf1⟩ := bcell hb1; have hz1_0 : w.heap.size < w1.heap.size := lt_below hb1 ltg; have hl1_0 := Nat.le_of_lt hz1_0; have hA1 := bnext (w0 := w) bgo hb1; have hs1 := hA1.size; clear hb1)
  exact bodyPost_ret (v := .tuple #[IZ, .int .i64 1]) (by simp only [results, Tryz.results8]; go_simp) rfl ⟨rfl, bgo⟩
set_option maxHeartbeats 2000000 in
theorem stg_b (b0 : Int) (hba : (b0 != ba) = true)
    (c2 : ∀ W, Tab W → Calls Tryz.prog 23 #[.int .i64 t] W fun r w' => r = .returned (.tuple #[.agg #[.int .i64 num, .string nm, .int .i64 b0, .int .i64 wi, .int .i64 pr, .int .i64 ex, .int .i64 le, .int .i64 mo, .int .i64 pa, .bool de], .int .i64 0]) ∧ Below W.heap.size W w') :
    Calls Tryz.prog 8 #[.int .i64 t, .int .i64 ba, .int .i64 d] w fun r w' => r = .returned (.tuple #[IZ, .int .i64 1]) ∧ Below w.heap.size w w' := by
  have hsm := cell_set_map
  go_enter Tryz.func8, Tryz.ntmps8
  go_wp2_with (go_at_call 23; refine (c2 _ (hT.go bgo)).mono ?_; rintro r w1 ⟨rfl, hb1⟩; obtain ⟨hc1, hf1⟩ := bcell hb1; have hz1_0 : w.heap.size < w1.heap.size := lt_below hb1 ltg; have hl1_0 := Nat.le_of_lt hz1_0; have hA1 := bnext (w0 := w) bgo hb1; have hs1 := hA1.size; clear hb1)
  exact bodyPost_ret (v := .tuple #[IZ, .int .i64 1]) (by simp only [results, Tryz.results8]; go_simp) rfl ⟨rfl, bgo⟩
variable (c2 : ∀ W, Tab W → Calls Tryz.prog 23 #[.int .i64 t] W fun r w' => r = .returned (.tuple #[.agg #[.int .i64 num, .string nm, .int .i64 ba, .int .i64 wi, .int .i64 pr, .int .i64 ex, .int .i64 le, .int .i64 mo, .int .i64 pa, .bool de], .int .i64 0]) ∧ Below W.heap.size W w')
include c2
set_option maxHeartbeats 2000000 in
theorem stg_k (c3 : ∀ W, Calls Tryz.prog 24 #[.int .i64 d] W fun r w' => r = .returned (.bool false) ∧ W = w') :
    Calls Tryz.prog 8 #[.int .i64 t, .int .i64 ba, .int .i64 d] w fun r w' => r = .returned (.tuple #[IZ, .int .i64 1]) ∧ Below w.heap.size w w' := by
  have hsm := cell_set_map
  have hbb : (ba != ba) = false := bne_self_eq_false ba
  go_enter Tryz.func8, Tryz.ntmps8
  go_wp2_with (first
    | (go_at_call 23; refine (c2 _ (hT.go bgo)).mono ?_; rintro r w1 ⟨rfl, hb1⟩; obtain ⟨hc1, hf1⟩ := bcell hb1; have hz1_0 : w.heap.size < w1.heap.size := lt_below hb1 ltg; have hl1_0 := Nat.le_of_lt hz1_0; have hA1 := bnext (w0 := w) bgo hb1; have hs1 := hA1.size; clear hb1)
    | (go_at_call 24; refine (c3 _).mono ?_; rintro r w2 ⟨rfl, rfl⟩))
  exact bodyPost_ret (v := .tuple #[IZ, .int .i64 1]) (by simp only [results, Tryz.results8]; go_simp) rfl ⟨rfl, bgo⟩
set_option maxHeartbeats 2000000 in
theorem stg_y (c3 : ∀ W, Calls Tryz.prog 24 #[.int .i64 d] W fun r w' => r = .returned (.bool true) ∧ W = w') :
    Calls Tryz.prog 8 #[.int .i64 t, .int .i64 ba, .int .i64 d] w fun r w' => r = .returned (.tuple #[.agg #[.int .i64 num, .string nm, .int .i64 ba, .int .i64 wi, .int .i64 pr, .int .i64 ex, .int .i64 le, .int .i64 mo, .int .i64 pa, .bool de], .int .i64 0]) ∧ Below w.heap.size w w' := by
  have hsm := cell_set_map
  have hbb : (ba != ba) = false := bne_self_eq_false ba
  go_enter Tryz.func8, Tryz.ntmps8
  go_wp2_with (first
    | (go_at_call 23; refine (c2 _ (hT.go bgo)).mono ?_; rintro r w1 ⟨rfl, hb1⟩; obtain ⟨hc1, hf1⟩ := bcell hb1; have hz1_0 : w.heap.size < w1.heap.size := lt_below hb1 ltg; have hl1_0 := Nat.le_of_lt hz1_0; have hA1 := bnext (w0 := w) bgo hb1; have hs1 := hA1.size; clear hb1)
    | (go_at_call 24; refine (c3 _).mono ?_; rintro r w2 ⟨rfl, rfl⟩))
  exact bodyPost_ret (v := .tuple #[.agg #[.int .i64 num, .string nm, .int .i64 ba, .int .i64 wi, .int .i64 pr, .int .i64 ex, .int .i64 le, .int .i64 mo, .int .i64 pa, .bool de], .int .i64 0]) (by simp only [results, Tryz.results8]; go_simp) rfl ⟨rfl, bgo⟩
end
/-- what is known of a format, as a value -/
abbrev InfV (t : Int) : Value := .agg #[.int .i64 (numN t), .string (nameN t), .int .i64 (baseN t), .int .i64 (widthN t), .int .i64 (precN t), .int .i64 (expN t), .int .i64 (leastN t), .int .i64 (mostN t), .int .i64 (payN t), .bool (denseN t)]
theorem starg_y {t ba d : Int} (w : World) (hT : Tab w) (h1 : okN t) (h2 : baseN t = ba) (h3 : knB d) :
    Calls Tryz.prog 8 #[.int .i64 t, .int .i64 ba, .int .i64 d] w fun r w' => r = .returned (.tuple #[InfV t, .int .i64 0]) ∧ Below w.heap.size w w' := by
  have c2 := fun W h => ofv_any t W h
  have c3 := fun W => known_any d W
  rw [decide_eq_true h3] at c3
  rw [show infoE t = 0 from if_pos h1, h2] at c2
  unfold InfV
  rw [h2]
  exact stg_y t ba d _ _ _ _ _ _ _ _ _ w hT c2 c3
theorem starg_n {t ba d : Int} (w : World) (hT : Tab w) (h : ¬ (okN t ∧ baseN t = ba ∧ knB d)) :
    Calls Tryz.prog 8 #[.int .i64 t, .int .i64 ba, .int .i64 d] w fun r w' => r = .returned (.tuple #[IZ, .int .i64 1]) ∧ Below w.heap.size w w' := by
  have c2 := fun W h => ofv_any t W h
  have c3 := fun W => known_any d W
  by_cases h1 : okN t
  · rw [show infoE t = 0 from if_pos h1] at c2
    by_cases h2 : baseN t = ba
    · rw [h2] at c2
      by_cases h3 : knB d
      · exact absurd ⟨h1, h2, h3⟩ h
      · rw [decide_eq_false h3] at c3
        exact stg_k t ba d _ _ _ _ _ _ _ _ _ w hT c2 c3
    · exact stg_b t ba d _ _ _ _ _ _ _ _ _ w hT _ (by rw [bne_iff_ne]; exact h2) c2
  · rw [show infoE t = 1 from if_neg h1] at c2
    exact stg_e t ba d _ _ _ _ _ _ _ _ _ w hT _ c2
section
variable (num ba wi pr ex le mo pa c x : Int) (nm : ByteArray) (de s g : Bool) (k Q : Nat) (hk : k < 2 ^ 256) (w : World) (cm : Int)
  (c61 : ∀ W, Calls Tryz.prog 26 #[.int .i64 ba, .int .i64 pa] W fun r w' => ∃ v, r = .returned (.tuple #[v, .int .i64 0]) ∧ Nt 2001 Q v w' ∧ Below W.heap.size W w')
  (c64 : ∀ W v u, Nt 4 k v W → Nt 2001 Q u W → Calls Tryz.prog 27 #[v, u] W fun r w' => r = .returned (.int .i64 cm) ∧ Below W.heap.size W w')
include hk c61 c64
set_option maxHeartbeats 2000000 in
theorem scnv_l (h : cm < 0) :
    Calls Tryz.prog 10 #[.agg #[.int .i64 num, .string nm, .int .i64 ba, .int .i64 wi, .int .i64 pr, .int .i64 ex, .int .i64 le, .int .i64 mo, .int .i64 pa, .bool de], DV c s g x k] w fun r w' => r = .returned (.tuple #[DV c s false x k, .int .i64 (if g then 1 else 0)]) ∧ Below w.heap.size w w' := by
  have hbx := fun W hW => dat_box (w0 := w.alloc (.cells #[.int .i64 num, .string nm, .int .i64 ba, .int .i64 wi, .int .i64 pr, .int .i64 ex, .int .i64 le, .int .i64 mo, .int .i64 pa, .bool de] 35)) (w := W) (c := c) (s := s) (g := g) (x := x) (t := 31) hk hW
  have h' : ¬ 0 ≤ cm := by omega
  have h'' : decide (0 ≤ cm) = false := decide_eq_false h'
  have hsm := cell_set_map
  cases g
  all_goals (
    go_enter Tryz.func10, Tryz.ntmps10
    go_wp2_with (first
      | (go_at_call 26; refine (c61 _).mono ?_; rintro r w1 ⟨v1, rfl, hv1, hb1⟩; have hv0 := hbx _ (bnx (below1 _ _) hb1); obtain ⟨hc1, hf1⟩ := bcell hb1; have hz1_0 : w.heap.size < w1.heap.size := lt_below hb1 ltg; have hl1_0 := Nat.le_of_lt hz1_0; have hz1_1 : w.heap.size + 1 < w1.heap.size := lt_below hb1 ltg; have hl1_1 := Nat.le_of_lt hz1_1; have hz1_2 : w.heap.size + 1 + 1 < w1.heap.size := lt_below hb1 ltg; have hl1_2 := Nat.le_of_lt hz1_2; have hA1 := bnext (w0 := w) bgo hb1; have hs1 := hA1.size; clear hb1)
      | (go_at_call 27; refine (c64 _ _ _ (by simpa using hv0) hv1).mono ?_; rintro r w2 ⟨rfl, hb2⟩; obtain ⟨hc2, hf2⟩ := bcell hb2; have hz2_0 : w.heap.size < w2.heap.size := lt_below hb2 ltg; have hl2_0 := Nat.le_of_lt hz2_0; have hz2_1 : w.heap.size + 1 < w2.heap.size := lt_below hb2 ltg; have hl2_1 := Nat.le_of_lt hz2_1; have hz2_2 : w.heap.size + 1 + 1 < w2.heap.size := lt_below hb2 ltg; have hl2_2 := Nat.le_of_lt hz2_2; have hA2 := bnext (w0 := w) bgo hb2; have hs2 := hA2.size; clear hb2))
    exact bodyPost_ret (by simp only [results, Tryz.results10]; go_simp) rfl ⟨rfl, bgo⟩)
set_option maxHeartbeats 2000000 in
theorem scnv_g (h : 0 ≤ cm) :
    Calls Tryz.prog 10 #[.agg #[.int .i64 num, .string nm, .int .i64 ba, .int .i64 wi, .int .i64 pr, .int .i64 ex, .int .i64 le, .int .i64 mo, .int .i64 pa, .bool de], DV c s g x k] w fun r w' => r = .returned (.tuple #[DV c s false x 0, .int .i64 (if g then 1 else 0)]) ∧ Below w.heap.size w w' := by
  have hbx := fun W hW => dat_box (w0 := w.alloc (.cells #[.int .i64 num, .string nm, .int .i64 ba, .int .i64 wi, .int .i64 pr, .int .i64 ex, .int .i64 le, .int .i64 mo, .int .i64 pa, .bool de] 35)) (w := W) (c := c) (s := s) (g := g) (x := x) (t := 31) hk hW
  have h'' : decide (0 ≤ cm) = true := decide_eq_true h
  have hz : DV c s false x 0 = .agg #[.int .i64 c, .bool s, .bool false, .int .i64 x, .int .u64 0, .int .u64 0, .int .u64 0, .int .u64 0] := by unfold DV; simp only [W4_zero]
  rw [hz]
  clear hz
  have hsm := cell_set_map
  cases g
  all_goals (
    go_enter Tryz.func10, Tryz.ntmps10
    go_wp2_with (first
      | (go_at_call 26; refine (c61 _).mono ?_; rintro r w1 ⟨v1, rfl, hv1, hb1⟩; have hv0 := hbx _ (bnx (below1 _ _) hb1); obtain ⟨hc1, hf1⟩ := bcell hb1; have hz1_0 : w.heap.size < w1.heap.size := lt_below hb1 ltg; have hl1_0 := Nat.le_of_lt hz1_0; have hz1_1 : w.heap.size + 1 < w1.heap.size := lt_below hb1 ltg; have hl1_1 := Nat.le_of_lt hz1_1; have hz1_2 : w.heap.size + 1 + 1 < w1.heap.size := lt_below hb1 ltg; have hl1_2 := Nat.le_of_lt hz1_2; have hA1 := bnext (w0 := w) bgo hb1; have hs1 := hA1.size; clear hb1)
      | (go_at_call 27; refine (c64 _ _ _ (by simpa using hv0) hv1).mono ?_; rintro r w2 ⟨rfl, hb2⟩; obtain ⟨hc2, hf2⟩ := bcell hb2; have hz2_0 : w.heap.size < w2.heap.size := lt_below hb2 ltg; have hl2_0 := Nat.le_of_lt hz2_0; have hz2_1 : w.heap.size + 1 < w2.heap.size := lt_below hb2 ltg; have hl2_1 := Nat.le_of_lt hz2_1; have hz2_2 : w.heap.size + 1 + 1 < w2.heap.size := lt_below hb2 ltg; have hl2_2 := Nat.le_of_lt hz2_2; have hA2 := bnext (w0 := w) bgo hb2; have hs2 := hA2.size; clear hb2))
    exact bodyPost_ret (by simp only [results, Tryz.results10]; go_simp) rfl ⟨rfl, bgo⟩)
end
/-- an infinity or a NaN, as another format has it: the bound of its payloads Q -/
theorem sconv_v (t : Int) (Q : Nat) (hQ : ∀ W, Calls Tryz.prog 26 #[.int .i64 (baseN t), .int .i64 (payN t)] W fun r w' => ∃ v, r = .returned (.tuple #[v, .int .i64 0]) ∧ Nt 2001 Q v w' ∧ Below W.heap.size W w') (c x : Int) (s g : Bool) {k : Nat} (hk : k < 2 ^ 256) (w : World) :
    Calls Tryz.prog 10 #[InfV t, DV c s g x k] w fun r w' => r = .returned (.tuple #[DV c s false x (if k < Q then k else 0), .int .i64 (if g then 1 else 0)]) ∧ Below w.heap.size w w' := by
  have c64 : ∀ W v u, Nt 4 k v W → Nt 2001 Q u W → Calls Tryz.prog 27 #[v, u] W fun r w' => r = .returned (.int .i64 (sgn (k : Int) (Q : Int))) ∧ Below W.heap.size W w' := fun W v u h1 h2 => ncmp_v (by decide) (by decide) h1 h2
  by_cases h : k < Q
  · rw [if_pos h]
    refine scnv_l _ _ _ _ _ _ _ _ c x _ _ s g k Q hk w _ hQ c64 ?_
    rcases sgn_ways (k : Int) (Q : Int) with ⟨x, e⟩ | ⟨x, e⟩ | ⟨x, e⟩ <;> omega
  · rw [if_neg h]
    refine scnv_g _ _ _ _ _ _ _ _ c x _ _ s g k Q hk w _ hQ c64 ?_
    rcases sgn_ways (k : Int) (Q : Int) with ⟨x, e⟩ | ⟨x, e⟩ | ⟨x, e⟩ <;> omega
/-- the bound of a binary format's payloads -/
theorem bin_bound {t : Int} (hb : binN t) (W : World) : Calls Tryz.prog 26 #[.int .i64 (baseN t), .int .i64 (payN t)] W fun r w' => ∃ v, r = .returned (.tuple #[v, .int .i64 0]) ∧ Nt 2001 (2 ^ (fN t - 1)) v w' ∧ Below W.heap.size W w' := by
  obtain ⟨f1, f2, f3, f4, f5, f6⟩ := bin_fields hb
  have h2 := fN_two hb
  have h240 := (bin_fm hb).f240
  rw [f2, f6, show (fN t : Int) - 1 = ((fN t - 1 : Nat) : Int) by omega]
  exact npow2z (fN t - 1) W (by omega)
end
section
attribute [local irreducible] W4
section
variable (m t d c x : Int) (s g : Bool) (k B : Nat) (I : Value) (w : World) (hT : Tab w)
include hT
set_option maxHeartbeats 2000000 in
theorem cvb_e1
    (c1 : ∀ W, Tab W → Calls Tryz.prog 7 #[.int .i64 m, A4 B] W fun r w' => r = .returned (.tuple #[DV c s g x k, .int .i64 1]) ∧ Below W.heap.size W w') :
    Calls Tryz.prog 5 #[.int .i64 m, .int .i64 t, .int .i64 d, A4 B] w fun r w' => r = .returned (.tuple #[A4 0, .int .i64 0, .int .i64 1]) ∧ Below w.heap.size w w' := by
  rw [Z4_eq]
  have hsm := cell_set_map
  go_enter Tryz.func5, Tryz.ntmps5
  go_wp2_with (first
    | (go_at_call 7; refine (c1 _ (hT.go bgo)).mono ?_; rintro r w1 ⟨rfl, hb1⟩; obtain ⟨hc1, hf1⟩ := bcell hb1; have hz1_0 : w.heap.size < w1.heap.size := lt_below hb1 ltg; have hl1_0 := Nat.le_of_lt hz1_0; have hz1_1 : w.heap.size + 1 < w1.heap.size := lt_below hb1 ltg; have hl1_1 := Nat.le_of_lt hz1_1; have hA1 := bnext (w0 := w) bgo hb1; have hs1 := hA1.size; clear hb1))
  exact bodyPost_ret (by simp only [results, Tryz.results5]; go_simp) rfl ⟨rfl, bgo⟩
variable (c1 : ∀ W, Tab W → Calls Tryz.prog 7 #[.int .i64 m, A4 B] W fun r w' => r = .returned (.tuple #[DV c s g x k, .int .i64 0]) ∧ Below W.heap.size W w')
include c1
set_option maxHeartbeats 2000000 in
theorem cvb_e2
    (c2 : ∀ W, Tab W → Calls Tryz.prog 8 #[.int .i64 t, .int .i64 2, .int .i64 d] W fun r w' => r = .returned (.tuple #[IZ, .int .i64 1]) ∧ Below W.heap.size W w') :
    Calls Tryz.prog 5 #[.int .i64 m, .int .i64 t, .int .i64 d, A4 B] w fun r w' => r = .returned (.tuple #[A4 0, .int .i64 0, .int .i64 1]) ∧ Below w.heap.size w w' := by
  rw [Z4_eq]
  have hsm := cell_set_map
  go_enter Tryz.func5, Tryz.ntmps5
  go_wp2_with (first
    | (go_at_call 7; refine (c1 _ (hT.go bgo)).mono ?_; rintro r w1 ⟨rfl, hb1⟩; obtain ⟨hc1, hf1⟩ := bcell hb1; have hz1_0 : w.heap.size < w1.heap.size := lt_below hb1 ltg; have hl1_0 := Nat.le_of_lt hz1_0; have hz1_1 : w.heap.size + 1 < w1.heap.size := lt_below hb1 ltg; have hl1_1 := Nat.le_of_lt hz1_1; have hA1 := bnext (w0 := w) bgo hb1; have hs1 := hA1.size; clear hb1)
    | (go_at_call 8; refine (c2 _ (hT.go bgo)).mono ?_; rintro r w2 ⟨rfl, hb2⟩; obtain ⟨hc2, hf2⟩ := bcell hb2; have hz2_0 : w.heap.size < w2.heap.size := lt_below hb2 ltg; have hl2_0 := Nat.le_of_lt hz2_0; have hz2_1 : w.heap.size + 1 < w2.heap.size := lt_below hb2 ltg; have hl2_1 := Nat.le_of_lt hz2_1; have hz2_2 : w1.heap.size < w2.heap.size := lt_below hb2 ltg; have hl2_2 := Nat.le_of_lt hz2_2; have hA2 := bnext (w0 := w) bgo hb2; have hs2 := hA2.size; clear hb2))
  exact bodyPost_ret (by simp only [results, Tryz.results5]; go_simp) rfl ⟨rfl, bgo⟩
variable (c2 : ∀ W, Tab W → Calls Tryz.prog 8 #[.int .i64 t, .int .i64 2, .int .i64 d] W fun r w' => r = .returned (.tuple #[InfV t, .int .i64 0]) ∧ Below W.heap.size W w')
include c2
set_option maxHeartbeats 2000000 in
theorem cvb_1 (hc : c = 1) (R : Nat) (F : Int)
    (cR : ∀ W, Tab W → Calls Tryz.prog 9 #[.int .i64 t, .int .i64 d, .bool s, A4 k, .int .i64 x] W fun r w' => r = .returned (.tuple #[A4 R, .int .i64 F, .int .i64 0]) ∧ Below W.heap.size W w') :
    Calls Tryz.prog 5 #[.int .i64 m, .int .i64 t, .int .i64 d, A4 B] w fun r w' => r = .returned (.tuple #[A4 R, .int .i64 F, .int .i64 0]) ∧ Below w.heap.size w w' := by
  subst hc
  have hsm := cell_set_map
  go_enter Tryz.func5, Tryz.ntmps5
  go_wp2_with (first
    | (go_at_call 7; refine (c1 _ (hT.go bgo)).mono ?_; rintro r w1 ⟨rfl, hb1⟩; obtain ⟨hc1, hf1⟩ := bcell hb1; have hz1_0 : w.heap.size < w1.heap.size := lt_below hb1 ltg; have hl1_0 := Nat.le_of_lt hz1_0; have hz1_1 : w.heap.size + 1 < w1.heap.size := lt_below hb1 ltg; have hl1_1 := Nat.le_of_lt hz1_1; have hA1 := bnext (w0 := w) bgo hb1; have hs1 := hA1.size; clear hb1)
    | (go_at_call 8; refine (c2 _ (hT.go bgo)).mono ?_; rintro r w2 ⟨rfl, hb2⟩; obtain ⟨hc2, hf2⟩ := bcell hb2; have hz2_0 : w.heap.size < w2.heap.size := lt_below hb2 ltg; have hl2_0 := Nat.le_of_lt hz2_0; have hz2_1 : w.heap.size + 1 < w2.heap.size := lt_below hb2 ltg; have hl2_1 := Nat.le_of_lt hz2_1; have hz2_2 : w1.heap.size < w2.heap.size := lt_below hb2 ltg; have hl2_2 := Nat.le_of_lt hz2_2; have hA2 := bnext (w0 := w) bgo hb2; have hs2 := hA2.size; clear hb2)
    | (go_at_call 9; refine (cR _ (hT.go bgo)).mono ?_; rintro r w3 ⟨rfl, hb3⟩; obtain ⟨hc3, hf3⟩ := bcell hb3; have hz3_0 : w.heap.size < w3.heap.size := lt_below hb3 ltg; have hl3_0 := Nat.le_of_lt hz3_0; have hz3_1 : w.heap.size + 1 < w3.heap.size := lt_below hb3 ltg; have hl3_1 := Nat.le_of_lt hz3_1; have hz3_2 : w1.heap.size < w3.heap.size := lt_below hb3 ltg; have hl3_2 := Nat.le_of_lt hz3_2; have hz3_3 : w2.heap.size < w3.heap.size := lt_below hb3 ltg; have hl3_3 := Nat.le_of_lt hz3_3; have hA3 := bnext (w0 := w) bgo hb3; have hs3 := hA3.size; clear hb3))
  exact bodyPost_ret (by simp only [results, Tryz.results5]; go_simp) rfl ⟨rfl, bgo⟩
set_option maxHeartbeats 4000000 in
theorem cvb_3 (hc : c = 2 ∨ c = 3) (k' R : Nat) (F : Int)
    (cC : ∀ W, Calls Tryz.prog 10 #[InfV t, DV c s g x k] W fun r w' => r = .returned (.tuple #[DV c s false x k', .int .i64 F]) ∧ Below W.heap.size W w')
    (cP : ∀ W, Tab W → Calls Tryz.prog 11 #[.int .i64 t, DV c s false x k'] W fun r w' => r = .returned (.tuple #[A4 R, .int .i64 0]) ∧ Below W.heap.size W w') :
    Calls Tryz.prog 5 #[.int .i64 m, .int .i64 t, .int .i64 d, A4 B] w fun r w' => r = .returned (.tuple #[A4 R, .int .i64 F, .int .i64 0]) ∧ Below w.heap.size w w' := by
  have hsm := cell_set_map
  rcases hc with rfl | rfl
  all_goals (
    go_enter Tryz.func5, Tryz.ntmps5
    go_wp2_with (first
      | (go_at_call 7; refine (c1 _ (hT.go bgo)).mono ?_; rintro r w1 ⟨rfl, hb1⟩; obtain ⟨hc1, hf1⟩ := bcell hb1; have hz1_0 : w.heap.size < w1.heap.size := lt_below hb1 ltg; have hl1_0 := Nat.le_of_lt hz1_0; have hz1_1 : w.heap.size + 1 < w1.heap.size := lt_below hb1 ltg; have hl1_1 := Nat.le_of_lt hz1_1; have hA1 := bnext (w0 := w) bgo hb1; have hs1 := hA1.size; clear hb1)
      | (go_at_call 8; refine (c2 _ (hT.go bgo)).mono ?_; rintro r w2 ⟨rfl, hb2⟩; obtain ⟨hc2, hf2⟩ := bcell hb2; have hz2_0 : w.heap.size < w2.heap.size := lt_below hb2 ltg; have hl2_0 := Nat.le_of_lt hz2_0; have hz2_1 : w.heap.size + 1 < w2.heap.size := lt_below hb2 ltg; have hl2_1 := Nat.le_of_lt hz2_1; have hz2_2 : w1.heap.size < w2.heap.size := lt_below hb2 ltg; have hl2_2 := Nat.le_of_lt hz2_2; have hA2 := bnext (w0 := w) bgo hb2; have hs2 := hA2.size; clear hb2)
      | (go_at_call 10; refine (cC _).mono ?_; rintro r w3 ⟨rfl, hb3⟩; obtain ⟨hc3, hf3⟩ := bcell hb3; have hz3_0 : w.heap.size < w3.heap.size := lt_below hb3 ltg; have hl3_0 := Nat.le_of_lt hz3_0; have hz3_1 : w.heap.size + 1 < w3.heap.size := lt_below hb3 ltg; have hl3_1 := Nat.le_of_lt hz3_1; have hz3_2 : w1.heap.size < w3.heap.size := lt_below hb3 ltg; have hl3_2 := Nat.le_of_lt hz3_2; have hz3_3 : w2.heap.size < w3.heap.size := lt_below hb3 ltg; have hl3_3 := Nat.le_of_lt hz3_3; have hA3 := bnext (w0 := w) bgo hb3; have hs3 := hA3.size; clear hb3)
      | (go_at_call 11; refine (cP _ (hT.go bgo)).mono ?_; rintro r w4 ⟨rfl, hb4⟩; obtain ⟨hc4, hf4⟩ := bcell hb4; have hz4_0 : w.heap.size < w4.heap.size := lt_below hb4 ltg; have hl4_0 := Nat.le_of_lt hz4_0; have hz4_1 : w.heap.size + 1 < w4.heap.size := lt_below hb4 ltg; have hl4_1 := Nat.le_of_lt hz4_1; have hz4_2 : w1.heap.size < w4.heap.size := lt_below hb4 ltg; have hl4_2 := Nat.le_of_lt hz4_2; have hz4_3 : w2.heap.size < w4.heap.size := lt_below hb4 ltg; have hl4_3 := Nat.le_of_lt hz4_3; have hA4 := bnext (w0 := w) bgo hb4; have hs4 := hA4.size; clear hb4))
    exact bodyPost_ret (by simp only [results, Tryz.results5]; go_simp) rfl ⟨rfl, bgo⟩)
end
theorem conv_v (m t d : Int) (B : Nat) (w : World) (hT : Tab w) (hB : B < 2 ^ 256) :
    Calls Tryz.prog 5 #[.int .i64 m, .int .i64 t, .int .i64 d, A4 B] w fun r w' => r = .returned (.tuple #[A4 (cnV m t d B), .int .i64 (cnF m t d B), .int .i64 (cnE m t d B)]) ∧ Below w.heap.size w w' := by
  have c1 : ∀ W, Tab W → Calls Tryz.prog 7 #[.int .i64 m, A4 B] W fun r w' => r = .returned (.tuple #[DV (unD m B).c (unD m B).s (unD m B).g (unD m B).x (unD m B).k, .int .i64 (unE m B)]) ∧ Below W.heap.size W w' := fun W h => unpack_any m B W h hB
  unfold cnV cnF cnE
  by_cases h1 : goodN m B
  · rw [show unE m B = 0 from if_pos h1] at c1
    by_cases h2 : binN t ∧ knB d
    · obtain ⟨hb, hd⟩ := h2
      obtain ⟨f1, f2, f3, f4, f5, f6⟩ := bin_fields hb
      have c2 := fun W h => starg_y W h f1 f2 hd
      have hc : cnG m t d B := ⟨h1, hb, hd⟩
      rw [if_pos hc, if_pos hc, if_pos hc]
      have hi := und_is h1
      have hkk := unD_k m B
      generalize unD m B = D at *
      obtain ⟨c, s, g, x, k⟩ := D
      dsimp only at c1 hkk
      have cC := fun c W => sconv_v t _ (bin_bound hb) c x s g hkk W
      rcases hi with ⟨i1, i2, i3, i4, i5, i6⟩ | ⟨i1, i2, i3, i4⟩ | ⟨i1, i2, i3, i4⟩
      · dsimp only at i1 i2
        subst i1
        rw [show cvV t d ⟨1, s, g, x, k⟩ = rdV t d s k 1 x from rfl, show cvF t d ⟨1, s, g, x, k⟩ = rdF t d s k 1 x from rfl]
        exact cvb_1 m t d 1 x s g k B w hT c1 c2 rfl _ _ (fun W h => scaled_good t d x s k W h hb hd hkk)
      · dsimp only at i1 i2 i3 i4
        subst i1 i2 i3 i4
        have hE : pkE t ⟨2, s, false, 0, 0⟩ = 0 := by
          unfold pkE
          rw [if_pos hb]
          exact if_pos (Or.inr (Or.inl ⟨rfl, rfl, rfl, rfl⟩))
        have cP := fun W h => pack_any t ⟨2, s, false, 0, 0⟩ W h (show 0 < 2 ^ 256 by decide)
        rw [hE] at cP
        refine cvb_3 m t d 2 0 s false 0 B w hT c1 c2 (Or.inl rfl) _ _ _ (cC 2) ?_
        rw [ite_self]
        exact cP
      · dsimp only at i1 i2
        subst i1 i2
        have hk' : (if k < 2 ^ (fN t - 1) then k else 0) < 2 ^ 256 := by split <;> omega
        have hE : pkE t ⟨3, s, false, 0, if k < 2 ^ (fN t - 1) then k else 0⟩ = 0 := by
          unfold pkE
          rw [if_pos hb]
          refine if_pos (Or.inr (Or.inr ⟨rfl, rfl, ?_, Or.inr rfl⟩))
          dsimp only
          split
          · assumption
          · exact Nat.two_pow_pos _
        have cP := fun W h => pack_any t ⟨3, s, false, 0, if k < 2 ^ (fN t - 1) then k else 0⟩ W h hk'
        rw [hE] at cP
        exact cvb_3 m t d 3 0 s g k B w hT c1 c2 (Or.inr rfl) _ _ _ (cC 3) cP
    · have hc : ¬ cnG m t d B := fun q => h2 q.2
      rw [if_neg hc, if_neg hc, if_neg hc]
      refine cvb_e2 m t d _ _ _ _ _ B w hT c1 (fun W h => starg_n W h ?_)
      rintro ⟨a1, a2, a3⟩
      refine h2 ⟨?_, a3⟩
      apply Classical.byContradiction
      intro hn
      rcases not_bin hn with ⟨q1, q2⟩ | q1
      · rw [a2] at q2; exact absurd q2 (by decide)
      · exact q1 a1
  · rw [show unE m B = 1 from if_neg h1] at c1
    have hc : ¬ cnG m t d B := fun q => h1 q.1
    rw [if_neg hc, if_neg hc, if_neg hc]
    exact cvb_e1 m t d _ _ _ _ _ B w hT c1
end
section
theorem A4_wide : A4 4591870180066957722 = .agg #[.int .u64 4591870180066957722, .int .u64 0, .int .u64 0, .int .u64 0] := by unfold A4; rw [show W4 4591870180066957722 0 = 4591870180066957722 by decide, show W4 4591870180066957722 1 = 0 by decide, show W4 4591870180066957722 2 = 0 by decide, show W4 4591870180066957722 3 = 0 by decide]
theorem A4_narrow : A4 1036831949 = .agg #[.int .u64 1036831949, .int .u64 0, .int .u64 0, .int .u64 0] := by unfold A4; rw [show W4 1036831949 0 = 1036831949 by decide, show W4 1036831949 1 = 0 by decide, show W4 1036831949 2 = 0 by decide, show W4 1036831949 3 = 0 by decide]
attribute [local irreducible] W4 mo
theorem wide_ld : ld 7205759403792794 1 = 52 := by
  have e1 : bl 7205759403792794 = 53 := bl_eq (by decide) (by decide)
  have e3 : bl 1 = 1 := bl_eq (by decide) (by decide)
  unfold ld
  rw [e1, e3]
  decide
theorem wide_X : rX 3 7205759403792794 1 (-56) = -56 := by unfold rX; rw [wide_ld]; decide
theorem wide_Q : rQ 3 7205759403792794 1 (-56) = -27 := by unfold rQ; rw [wide_ld, wide_X]; decide
theorem wide_C : rC 3 0 false 7205759403792794 1 (-56) = 13421773 := by unfold rC; rw [wide_X, wide_Q]; decide
theorem wide_bl : bl 13421773 = 24 := bl_eq (by decide) (by decide)
theorem wide_V : rdV 3 0 false 7205759403792794 1 (-56) = 1036831949 := by
  unfold rdV rQ' rC'
  rw [wide_C, wide_bl, wide_Q]
  decide
theorem wide_F : rdF 3 0 false 7205759403792794 1 (-56) = 8 := by
  unfold rdF rQ'
  rw [wide_C, wide_bl, wide_Q, wide_X, wide_ld]
  decide
theorem tenth12 : cnV 4 3 0 4591870180066957722 = 1036831949 ∧ cnF 4 3 0 4591870180066957722 = 8 ∧ cnE 4 3 0 4591870180066957722 = 0 := by
  have hg : cnG 4 3 0 4591870180066957722 := ⟨by decide, by decide, by decide⟩
  unfold cnV cnF cnE
  rw [if_pos hg, if_pos hg, if_pos hg]
  have hu : unD 4 4591870180066957722 = ⟨1, false, false, -56, 7205759403792794⟩ := by kernel_rfl
  rw [hu]
  exact ⟨wide_V, wide_F, rfl⟩
set_option maxHeartbeats 1000000 in
theorem awake12 (w : World) (hT : Tab w) : Calls Tryz.prog 4 #[] w fun r w' => r = .returned (.bool true) ∧ Below w.heap.size w w' := by
  have c := fun W (h : Tab W) => conv_v 4 3 0 4591870180066957722 W h (by decide)
  rw [tenth12.1, tenth12.2.1, tenth12.2.2, A4_wide, A4_narrow] at c
  have hQ : ∀ W, Sem.run Tryz.prog (Op.equalIn 10000 24 (.agg #[.int .u64 1036831949, .int .u64 0, .int .u64 0, .int .u64 0]) (.agg #[.int .u64 1036831949, .int .u64 0, .int .u64 0, .int .u64 0])) W = .ok true W := fun W => by
    have := A4_self 1036831949 W
    rw [A4_narrow] at this
    exact this
  go_enter Tryz.func4, Tryz.ntmps4
  go_wp2_with (go_at_call 5; refine (c _ (hT.go bgo)).mono ?_; rintro r w1 ⟨rfl, hb1⟩; have hs1 := hb1.size)
  go_ret
  exact ⟨rfl, bgo⟩
end
section
theorem rscale2 {N D : Nat} {vn vd : Value} {w : World} (x : Int) (hx : -17000 ≤ x ∧ x ≤ 17000) (h : NT 900 N vn w) (h' : NT 900 D vd w) (hN : bl N ≤ 300) (hD : bl D ≤ 300) :
    Calls Tryz.prog 42 #[vn, vd, .int .u64 2, .int .i64 x] w fun e w' => ∃ a b, e = .returned (.tuple #[a, b]) ∧ NT 900 (N * 2 ^ x.toNat) a w' ∧ NT 900 (D * 2 ^ (-x).toNat) b w' ∧ Below w.heap.size w w' := by
  have hc : clZ x = x := by unfold clZ; omega
  have e1 : sN N x = N * 2 ^ x.toNat := by unfold sN; rw [hc]
  have e2 : sD D x = D * 2 ^ (-x).toNat := by unfold sD; rw [hc]
  have a1 := bl_mul N (2 ^ x.toNat)
  have a2 := bl_mul D (2 ^ (-x).toNat)
  have b1 := two_bl x.toNat
  have b2 := two_bl (-x).toNat
  refine (rscale_nt x (by decide) h h').mono fun e w' ⟨a, b, h1, h2, h3, h4⟩ => ⟨a, b, h1, ?_, ?_, h4⟩
  · rw [e1] at h2; exact h2.tight (by omega)
  · rw [e2] at h3; exact h3.tight (by omega)
theorem nt_at0 {W : World} {g k : Nat} (hk : k < 2 ^ 256) (hg : g < W.heap.size) (h0 : W.cell? ⟨g, 0, none⟩ = some (.int .u64 (W4 k 0))) (h1 : W.cell? ⟨g, 1, none⟩ = some (.int .u64 (W4 k 1))) (h2 : W.cell? ⟨g, 2, none⟩ = some (.int .u64 (W4 k 2))) (h3 : W.cell? ⟨g, 3, none⟩ = some (.int .u64 (W4 k 3))) :
    Nt 4 k (.slice (some ⟨g, 0, none⟩) 4 4) W := by
  unfold Nt
  refine ⟨some ⟨g, 0, none⟩, 4, 4, fun i => if i < 4 then W4 k i else 0, rfl, Nat.le_refl _, ⟨Nat.le_refl _, by unfold maxLen; omega, fun i => ?_, fun i hi => if_neg (by omega), Or.inr ⟨g, 0, rfl, hg, fun i hi => ?_⟩⟩, ?_⟩
  · dsimp only
    split
    · exact W4_words k i
    · exact ⟨Int.le_refl _, by decide⟩
  · have : i = 0 ∨ i = 1 ∨ i = 2 ∨ i = 3 := by omega
    rcases this with rfl | rfl | rfl | rfl
    · exact h0
    · exact h1
    · exact h2
    · exact h3
  · have e := W4_val4 hk
    rw [← e]
    simp [val]
attribute [local irreducible] W4 Nz Nt NT NV
set_option maxHeartbeats 1000000 in
theorem rnat_v (k : Nat) (w : World) (hk : k < 2 ^ 256) :
    Calls Tryz.prog 41 #[A4 k] w fun r w' => ∃ v, r = .returned v ∧ NT 4 k v w' ∧ Below w.heap.size w w' := by
  have hn0 : Nt 4 k (.slice (some ⟨w.heap.size, 0, none⟩) 4 4) (w.alloc (.cells #[.int .u64 (W4 k 0), .int .u64 (W4 k 1), .int .u64 (W4 k 2), .int .u64 (W4 k 3)] 24)) := nt_at0 hk (by simp) (by go_simp) (by go_simp) (by go_simp) (by go_simp)
  have c49 := rtrim_nt (by decide) hn0
  have hb0 := below1 w (.cells #[.int .u64 (W4 k 0), .int .u64 (W4 k 1), .int .u64 (W4 k 2), .int .u64 (W4 k 3)] 24)
  clear hn0
  unfold A4
  go_enter Tryz.func41, Tryz.ntmps41
  go_wp2_with (go_at_call 75; refine c49.mono ?_; rintro r w1 ⟨v, rfl, hv, hb1⟩)
  go_ret
  exact ⟨v, rfl, hv, bnx hb0 hb1⟩
section
variable {a : Act} {w : World} {K : Act → World → Prop} {Q : Exit → Act → World → Prop} {d p q : Nat} {ty : TypeId} {pos : String} {after : Array Edge} {gd : Option (Nat × Bool)}
end
section
variable {a : Act} {w : World} {K : Act → World → Prop} {Q : Exit → Act → World → Prop} {d p q p2 p3 p4 : Nat} {ty : TypeId} {pos : String} {after : Array Edge} {gd : Option (Nat × Bool)}
end
end
section
attribute [local irreducible] W4 NT NV

theorem cvx_bd {m : Int} {B : Nat} (h : goodN m B) : -17000 ≤ (unD m B).x ∧ (unD m B).x ≤ 17000 := by
  have hi := und_is h
  have hl : -17000 ≤ leastN m ∧ mostN m ≤ 17000 := by rcases bin_cases h.1 with rfl | rfl | rfl | rfl | rfl | rfl <;> decide
  rcases hi with ⟨h1, h2, h3, h4, h5, h6⟩ | ⟨h1, h2, h3, h4⟩ | ⟨h1, h2, h3, h4⟩ <;> omega
theorem into_v {t d : Int} (hb : binN t) (hd : knB d) {m : Int} {B : Nat} (hg : goodN m B) (w : World) :
    Calls Tryz.prog 16 #[.int .i64 t, .int .i64 d, (unD m B).v, .int .u64 2] w fun r w' => r = .returned (.tuple #[A4 (cvV t d (unD m B)), .int .i64 (cvF t d (unD m B)), .int .i64 0]) ∧ Below w.heap.size w w' := by
  have hi := und_is hg
  have hx := cvx_bd hg
  have hk := unD_k m B
  generalize unD m B = D at *
  obtain ⟨c, s, g, x, k⟩ := D
  dsimp only at hx hk
  show Calls Tryz.prog 16 #[.int .i64 t, .int .i64 d, DV c s g x k, .int .u64 2] w _
  rcases hi with ⟨h1, h2, h3, h4, h5, h6⟩ | ⟨h1, h2, h3, h4⟩ | ⟨h1, h2, h3, h4⟩
  · dsimp only at h1 h2
    subst h1
    have hV : cvV t d ⟨1, s, g, x, k⟩ = rdV t d s k 1 x := rfl
    have hF : cvF t d ⟨1, s, g, x, k⟩ = rdF t d s k 1 x := rfl
    rw [hV, hF]
    by_cases h0 : k = 0
    · subst h0
      refine into_0 t d 1 x s g 0 w rfl _ _ (fun W => ?_) (fun W vn vd hn hd' => ?_)
      · refine (rnat_v 0 W (by decide)).mono ?_
        rintro r w' ⟨v, rfl, hv, hb'⟩
        obtain ⟨gv, kv, cv, rfl, _, hz⟩ := hv.zero
        have : kv = 0 := hz.2 rfl
        subst this
        exact ⟨gv, cv, rfl, hv, hb'⟩
      · have h := round_v t d 0 s (hn.more (K' := 2001) (by decide)) (hd'.more (K' := 2001) (by decide)) hb hd (by decide) (by decide) (by decide)
        obtain ⟨e1, e2⟩ := do_eq d s 0 (D := 1) 0 hb (by decide) (by decide) (by decide)
        rw [e1, e2, (r_zero d s 1 0 hb).1, (r_zero d s 1 0 hb).2, ← (r_zero d s 1 x hb).1] at h
        rw [(r_zero d s 1 x hb).2]
        exact h
    · have hbk : bl k ≤ 256 := bl_le.2 hk
      refine into_1 t d 1 x s g k w rfl _ (k * 2 ^ x.toNat) (1 * 2 ^ (-x).toNat) _ (fun W => ?_) (fun W vn vd hn hd' => rscale2 x hx (hn.more (by decide)) hd' (by omega) (by decide)) (fun W vn vd hn hd' => ?_)
      · refine (rnat_v k W hk).mono ?_
        rintro r w' ⟨v, rfl, hv, hb'⟩
        obtain ⟨gv, kv, cv, rfl, _, hz⟩ := hv.zero
        have : kv ≠ 0 := fun e => h0 (hz.1 e)
        exact ⟨gv, kv, cv, rfl, by omega, hv, hb'⟩
      · have b0 : ∀ M, 256 + x.toNat ≤ M → bl (k * 2 ^ x.toNat) ≤ M := fun M hM => bl_le.2 (by
          have h1 : k * 2 ^ x.toNat < 2 ^ 256 * 2 ^ x.toNat := Nat.mul_lt_mul_of_pos_right hk (Nat.two_pow_pos _)
          rw [← Nat.pow_add] at h1
          exact Nat.lt_of_lt_of_le h1 (Nat.pow_le_pow_right (by decide) hM))
        have b1 : bl (k * 2 ^ x.toNat) ≤ 120000 := b0 _ (by omega)
        have b3 : ∀ M, (-x).toNat < M → bl (1 * 2 ^ (-x).toNat) ≤ M := fun M hM => bl_le.2 (by
          rw [Nat.one_mul]
          exact Nat.pow_lt_pow_right (by decide) hM)
        have b2 : bl (1 * 2 ^ (-x).toNat) ≤ 120000 := b3 _ (by omega)
        have hD0 : 1 * 2 ^ (-x).toNat ≠ 0 := by
          rw [Nat.one_mul]
          exact Nat.pos_iff_ne_zero.1 (Nat.two_pow_pos _)
        have h := round_v t d 0 s (hn.more (K' := 2001) (by decide)) (hd'.more (K' := 2001) (by decide)) hb hd hD0 b1 b2
        obtain ⟨e1, e2⟩ := do_eq d s (k * 2 ^ x.toNat) 0 hb hD0 b1 b2
        obtain ⟨s1, s2⟩ := rd_shift t d s k (D := 1) (by decide) x.toNat (-x).toNat 0
        rw [show (0 : Int) + ((x.toNat : Int) - ((-x).toNat : Int)) = x by omega] at s1 s2
        rw [e1, e2, s1, s2] at h
        exact h
  · dsimp only at h1 h2 h3 h4
    subst h1 h2 h3 h4
    have c53 := fun W => rpack_any t ⟨2, s, false, 0, 0⟩ W (show 0 < 2 ^ 256 by decide)
    rw [show (Dat.v ⟨2, s, false, 0, 0⟩) = _ from DV_zero 2 s false 0] at c53
    exact into_2 t d 2 0 s false 0 w rfl _ _ c53
  · dsimp only at h1 h2 h3 h4
    subst h1 h2
    have hk' : (if k < 2 ^ (fN t - 1) then k else 0) < 2 ^ 256 := by split <;> omega
    exact into_3 t d 3 0 s g k w rfl _ _ _ _ (fun W => rnan_v hb 3 0 s g k hk W) (fun W => rpack_any t ⟨3, s, false, 0, if k < 2 ^ (fN t - 1) then k else 0⟩ W hk')
theorem rconv_v (m t d : Int) (B : Nat) (w : World) (hB : B < 2 ^ 256) :
    Calls Tryz.prog 6 #[.int .i64 m, .int .i64 t, .int .i64 d, A4 B] w fun r w' => r = .returned (.tuple #[A4 (cnV m t d B), .int .i64 (cnF m t d B), .int .i64 (cnE m t d B)]) ∧ Below w.heap.size w w' := by
  have c8 := fun W => rgood_any m B hB W
  have c14 : ∀ W, Calls Tryz.prog 13 #[.int .i64 t] W fun r w' => r = .returned (.bool (decide (binN t))) ∧ W = w' := fun W => (rbinary_any t W).mono fun r w' h => ⟨h.1, h.2.symm⟩
  have c10 := fun W => rdir_any d W
  unfold cnV cnF cnE
  by_cases h : cnG m t d B
  · rw [if_pos h, if_pos h, if_pos h]
    obtain ⟨h1, h2, h3⟩ := h
    rw [decide_eq_true h1] at c8
    rw [decide_eq_true h2] at c14
    rw [decide_eq_true h3] at c10
    have c40 := fun W => runpack_any m B W hB
    rw [show unE m B = 0 from if_pos h1] at c40
    exact rcv_y m t d B w _ _ _ _ _ _ _ c8 c14 c10 c40 (fun W => into_v h2 h3 h1 W)
  · rw [if_neg h, if_neg h, if_neg h]
    refine rcv_n m t d B w _ _ _ ?_ c8 c14 c10
    by_cases a1 : goodN m B
    · by_cases a2 : binN t
      · have a3 : ¬ knB d := fun a3 => h ⟨a1, a2, a3⟩
        rw [decide_eq_false a3, Bool.and_false]
      · rw [decide_eq_false a2, Bool.and_false, Bool.false_and]
    · rw [decide_eq_false a1, Bool.false_and, Bool.false_and]
end
section
attribute [local irreducible] W4

section
variable (m t d : Int) (B : Nat) (w : World) (hT : Tab w)
  (c7 : ∀ W, Below w.heap.size w W → Calls Tryz.prog 4 #[] W fun r w' => r = .returned (.bool true) ∧ Below W.heap.size W w')
include hT c7
set_option maxHeartbeats 2000000 in
theorem converts_k (V : Nat) (F E : Int)
    (c12 : ∀ W, Tab W → Calls Tryz.prog 5 #[.int .i64 m, .int .i64 t, .int .i64 d, A4 B] W fun r w' => r = .returned (.tuple #[A4 V, .int .i64 F, .int .i64 E]) ∧ Below W.heap.size W w')
    (c25 : ∀ W, Calls Tryz.prog 6 #[.int .i64 m, .int .i64 t, .int .i64 d, A4 B] W fun r w' => r = .returned (.tuple #[A4 V, .int .i64 F, .int .i64 E]) ∧ Below W.heap.size W w') :
    Calls Tryz.prog 3 #[.int .i64 m, .int .i64 t, .int .i64 d, A4 B] w fun r w' => r = .returned (.bool true) ∧ Below w.heap.size w w' := by
  have hQ := A4_self V
  go_enter Tryz.func3, Tryz.ntmps3
  go_wp2_with (first
    | (go_at_call 4; refine (c7 _ bgo).mono ?_; rintro r w1 ⟨rfl, hb1⟩; obtain ⟨hc1, hf1⟩ := bcell hb1; have hz1_0 : w.heap.size < w1.heap.size := lt_below hb1 ltg; have hl1_0 := Nat.le_of_lt hz1_0; have hA1 := bnext (w0 := w) bgo hb1; have hs1 := hA1.size; clear hb1)
    | (go_at_call 5; refine (c12 _ (hT.go bgo)).mono ?_; rintro r w2 ⟨rfl, hb2⟩; obtain ⟨hc2, hf2⟩ := bcell hb2; have hz2_0 : w.heap.size < w2.heap.size := lt_below hb2 ltg; have hl2_0 := Nat.le_of_lt hz2_0; have hA2 := bnext (w0 := w) bgo hb2; have hs2 := hA2.size; clear hb2)
    | (go_at_call 6; refine (c25 _).mono ?_; rintro r w3 ⟨rfl, hb3⟩; obtain ⟨hc3, hf3⟩ := bcell hb3; have hz3_0 : w.heap.size < w3.heap.size := lt_below hb3 ltg; have hl3_0 := Nat.le_of_lt hz3_0; have hz3_1 : w2.heap.size < w3.heap.size := lt_below hb3 ltg; have hl3_1 := Nat.le_of_lt hz3_1; have hA3 := bnext (w0 := w) bgo hb3; have hs3 := hA3.size; clear hb3))
  go_ret
  exact ⟨by first | rfl | simp, bgo⟩
end
theorem binconvConverts_any (m t d : Int) (B : Nat) (w : World) (hT : Tab w) (hB : B < 2 ^ 256) : Calls Tryz.prog 3 #[.int .i64 m, .int .i64 t, .int .i64 d, A4 B] w fun r w' => r = .returned (.bool true) ∧ Below w.heap.size w w' :=
  converts_k m t d B w hT (fun W hW => awake12 W (hT.go hW)) _ _ _ (fun W h => conv_v m t d B W h hB) (fun W => rconv_v m t d B W hB)
end
end Go.Proofs.YtiojbgdfmabjdaaGreatDoor
