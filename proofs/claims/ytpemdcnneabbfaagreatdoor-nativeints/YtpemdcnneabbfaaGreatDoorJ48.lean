/-
  Texts that the proof leans on.
-/
import Derived.Test.YtpemdcnneabbfaaGreatDoorJ45
import Derived.Test.YtpemdcnneabbfaaGreatDoorJ41
import Derived.Test.YtpemdcnneabbfaaGreatDoorJ47
import Derived.Test.YtpemdcnneabbfaaGreatDoorJ46
import Derived.Test.YtpemdcnneabbfaaGreatDoorJ31
import Derived.Test.YtpemdcnneabbfaaGreatDoorJ11
import Derived.Test.YtpemdcnneabbfaaGreatDoorJ42
import Derived.Test.YtpemdcnneabbfaaGreatDoorJ37
import Derived.StillTail
import Derived.Below
import Derived.WalkKit
import Derived.Test.YtpemdcnneabbfaaGreatDoorJ36
import Derived.Test.YtpemdcnneabbfaaGreatDoorJ32
import Derived.Test.YtpemdcnneabbfaaGreatDoorJ7
import Derived.Test.YtpemdcnneabbfaaGreatDoorJ35
import Derived.Test.YtpemdcnneabbfaaGreatDoorJ27
import Derived.Test.YtpemdcnneabbfaaGreatDoorJ44
import Derived.Test.YtpemdcnneabbfaaGreatDoorJ3
set_option linter.unusedVariables false
set_option linter.unusedSectionVars false
set_option linter.unusedSimpArgs false
set_option maxRecDepth 20000
namespace Go.Proofs.YtpemdcnneabbfaaGreatDoor
open Go.RowKit
theorem tnE_find {N D : Nat} (lo : Int) (h : tnG N D lo) : ∀ k : Nat, ¬ tnG N D (lo + k) → ∃ E, TnE N D E
  | 0, h' => absurd (by simpa using h) h'
  | k + 1, h' => by
    by_cases hk : tnG N D (lo + k)
    · exact ⟨lo + k, hk, by rw [show lo + (k : Int) + 1 = lo + ((k + 1 : Nat) : Int) by omega]; exact h'⟩
    · exact tnE_find lo h k hk
theorem tnE_ex {N D : Nat} (hN : 0 < N) (hD : 0 < D) : ∃ E, TnE N D E := by
  refine tnE_find (-(D : Int)) ?_ (N + D) ?_
  · unfold tnG
    rw [show (-(D : Int)).toNat = 0 by omega, Int.neg_neg, Int.toNat_natCast, Nat.pow_zero, Nat.mul_one]
    have h1 : D < 10 ^ D := Nat.lt_pow_self (by decide)
    exact Nat.le_trans (Nat.le_of_lt h1) (Nat.le_mul_of_pos_left _ hN)
  · rw [show -(D : Int) + ((N + D : Nat) : Int) = (N : Int) by omega]
    unfold tnG
    rw [show (-(N : Int)).toNat = 0 by omega, Int.toNat_natCast, Nat.pow_zero, Nat.mul_one]
    have h1 : N < 10 ^ N := Nat.lt_pow_self (by decide)
    have h2 : 10 ^ N ≤ D * 10 ^ N := Nat.le_mul_of_pos_left _ hD
    omega
/-- the exponent as the document takes it -/
def clT (x : Int) : Int := min (max x (-20000)) 20000
/-- the exponent of a fraction's first digit -/
noncomputable def tnX (N D : Nat) : Int := open Classical in if h : ∃ E, TnE N D E then Classical.choose h else 0
theorem tnX_is {N D : Nat} (hN : 0 < N) (hD : 0 < D) : TnE N D (tnX N D) := by
  have h := tnE_ex hN hD
  unfold tnX
  rw [dif_pos h]
  exact Classical.choose_spec h
/-- what decround answers -/
def rqE (n d : Int) (N D : Nat) : Int := if decN n ∧ knB d ∧ D ≠ 0 then (if 25600 < bl N ∨ 25600 < bl D then 4 else 0) else 1
noncomputable def rqD (n d : Int) (s : Bool) (N D : Nat) (x y : Int) : Dat :=
  if rqE n d N D = 0 then (if N = 0 then ⟨1, s, false, min (max y (fD n).l) (fD n).m, 0⟩ else dkD (fD n) d s (N * 10 ^ (clT x).toNat) (D * 10 ^ (-(clT x)).toNat) (tnX (N * 10 ^ (clT x).toNat) (D * 10 ^ (-(clT x)).toNat)) y) else ⟨0, false, false, 0, 0⟩
noncomputable def rqF (n d : Int) (s : Bool) (N D : Nat) (x : Int) : Int :=
  if rqE n d N D = 0 then (if N = 0 then 0 else dkF (fD n) d s (N * 10 ^ (clT x).toNat) (D * 10 ^ (-(clT x)).toNat) (tnX (N * 10 ^ (clT x).toNat) (D * 10 ^ (-(clT x)).toNat))) else 0
section
theorem tnX_eq {N D : Nat} {E : Int} (hN : 0 < N) (hD : 0 < D) (h : TnE N D E) : tnX N D = E := (tnX_is hN hD).only h
theorem third : rqD 7 0 false 1 3 0 0 = ⟨1, false, false, -7, 3333333⟩ ∧ rqF 7 0 false 1 3 0 = 8 ∧ rqE 7 0 1 3 = 0 := by
  have e0 : rqE 7 0 1 3 = 0 := by
    have b1 : bl 1 ≤ 2 := bl_le.2 (by decide)
    have b3 : bl 3 ≤ 2 := bl_le.2 (by decide)
    unfold rqE
    rw [if_pos ⟨by unfold decN; omega, by unfold knB; omega, by decide⟩, if_neg (by omega)]
  have eX : tnX (1 * 10 ^ (clT 0).toNat) (3 * 10 ^ (-(clT 0)).toNat) = -1 := tnX_eq (by decide) (by decide) ⟨by decide, by decide⟩
  refine ⟨?_, ?_, e0⟩
  · unfold rqD
    rw [if_pos e0, if_neg (by decide), eX]
    have h1 : (dkD (fD 7) 0 false (1 * 10 ^ (clT 0).toNat) (3 * 10 ^ (-(clT 0)).toNat) (-1) 0).c = 1 ∧ (dkD (fD 7) 0 false (1 * 10 ^ (clT 0).toNat) (3 * 10 ^ (-(clT 0)).toNat) (-1) 0).s = false ∧ (dkD (fD 7) 0 false (1 * 10 ^ (clT 0).toNat) (3 * 10 ^ (-(clT 0)).toNat) (-1) 0).g = false ∧ (dkD (fD 7) 0 false (1 * 10 ^ (clT 0).toNat) (3 * 10 ^ (-(clT 0)).toNat) (-1) 0).x = -7 ∧ (dkD (fD 7) 0 false (1 * 10 ^ (clT 0).toNat) (3 * 10 ^ (-(clT 0)).toNat) (-1) 0).k = 3333333 := by decide +kernel
    generalize dkD (fD 7) 0 false (1 * 10 ^ (clT 0).toNat) (3 * 10 ^ (-(clT 0)).toNat) (-1) 0 = R at h1 ⊢
    obtain ⟨c, s, g, x, k⟩ := R
    simp only at h1
    obtain ⟨rfl, rfl, rfl, rfl, rfl⟩ := h1
    rfl
  · unfold rqF
    rw [if_pos e0, if_neg (by decide), eX]
    decide +kernel
attribute [local irreducible] W4 Nt
end
/-- a word of the program's integers -/
def i6 (x : Int) : Prop := -9223372036854775808 ≤ x ∧ x ≤ 9223372036854775807
section
theorem dat_box {w0 w : World} {c x : Int} {s g : Bool} {k : Nat} {t : TypeId} (hk : k < 2 ^ 256)
    (hb : Below (w0.alloc (.cells #[.int .i64 c, .bool s, .bool g, .int .i64 x, .int .u64 (W4 k 0), .int .u64 (W4 k 1), .int .u64 (W4 k 2), .int .u64 (W4 k 3)] t)).heap.size (w0.alloc (.cells #[.int .i64 c, .bool s, .bool g, .int .i64 x, .int .u64 (W4 k 0), .int .u64 (W4 k 1), .int .u64 (W4 k 2), .int .u64 (W4 k 3)] t)) w) :
    Nt 4 k (.slice (some ⟨w0.heap.size, 4, none⟩) 4 4) w := by
  have hs : w0.heap.size < (w0.alloc (.cells #[.int .i64 c, .bool s, .bool g, .int .i64 x, .int .u64 (W4 k 0), .int .u64 (W4 k 1), .int .u64 (W4 k 2), .int .u64 (W4 k 3)] t)).heap.size := by simp
  refine ⟨_, 4, 4, lowW (W4 k) 4, rfl, Nat.le_refl _, ⟨Nat.le_refl _, by unfold maxLen; omega, ?_, ?_, Or.inr ⟨w0.heap.size, 4, rfl, Nat.lt_of_lt_of_le hs hb.size, ?_⟩⟩, ?_⟩
  · intro i
    by_cases hi : i < 4
    · rw [lowW_lt hi]; exact W4_words k i
    · rw [show lowW (W4 k) 4 i = 0 from if_neg hi]; exact ⟨Int.le_refl _, by decide⟩
  · intro i hi
    exact if_neg (by omega)
  · intro i hi
    rw [lowW_lt hi, hb.cell (p := ⟨w0.heap.size, 4 + i, none⟩) hs]
    have : i = 0 ∨ i = 1 ∨ i = 2 ∨ i = 3 := by omega
    rw [World.cell?_alloc_new]
    rcases this with rfl | rfl | rfl | rfl <;> rfl
  · rw [val_congr (x := lowW (W4 k) 4) (y := W4 k) 4 (fun i hi => lowW_lt hi), W4_val4 hk]
attribute [local irreducible] W4 Nt
end
section
attribute [local irreducible] W4 Nz Nt NT
section
variable (t ba d : Int) (num wi pr ex le mo pa : Int) (nm : ByteArray) (de : Bool) (w : World) (hT : Tab w)
include hT
set_option maxHeartbeats 2000000 in
theorem stg_e (b0 : Int)
    (c2 : ∀ W, Tab W → Calls Tryz.prog 40 #[.int .i64 t] W fun r w' => r = .returned (.tuple #[.agg #[.int .i64 num, .string nm, .int .i64 b0, .int .i64 wi, .int .i64 pr, .int .i64 ex, .int .i64 le, .int .i64 mo, .int .i64 pa, .bool de], .int .i64 1]) ∧ Below W.heap.size W w') :
    Calls Tryz.prog 50 #[.int .i64 t, .int .i64 ba, .int .i64 d] w fun r w' => r = .returned (.tuple #[IZ, .int .i64 1]) ∧ Below w.heap.size w w' := by
  have hsm := cell_set_map
  go_enter Tryz.func50, Tryz.ntmps50
  go_wp2_with (go_at_call 40; refine (c2 _ (hT.go bgo)).mono ?_; rintro r w1 ⟨rfl, hb1⟩; obtain ⟨hc1, hf1⟩ := bcell hb1; have hz1_0 : w.heap.size < w1.heap.size := lt_below hb1 ltg; have hl1_0 := Nat.le_of_lt hz1_0; have hA1 := bnext (w0 := w) bgo hb1; have hs1 := hA1.size; clear hb1)
  exact bodyPost_ret (v := .tuple #[IZ, .int .i64 1]) (by simp only [results, Tryz.results50]; go_simp) rfl ⟨rfl, bgo⟩
set_option maxHeartbeats 2000000 in
theorem stg_b (b0 : Int) (hba : (b0 != ba) = true)
    (c2 : ∀ W, Tab W → Calls Tryz.prog 40 #[.int .i64 t] W fun r w' => r = .returned (.tuple #[.agg #[.int .i64 num, .string nm, .int .i64 b0, .int .i64 wi, .int .i64 pr, .int .i64 ex, .int .i64 le, .int .i64 mo, .int .i64 pa, .bool de], .int .i64 0]) ∧ Below W.heap.size W w') :
    Calls Tryz.prog 50 #[.int .i64 t, .int .i64 ba, .int .i64 d] w fun r w' => r = .returned (.tuple #[IZ, .int .i64 1]) ∧ Below w.heap.size w w' := by
  have hsm := cell_set_map
  go_enter Tryz.func50, Tryz.ntmps50
  go_wp2_with (go_at_call 40; refine (c2 _ (hT.go bgo)).mono ?_; rintro r w1 ⟨rfl, hb1⟩; obtain ⟨hc1, hf1⟩ := bcell hb1; have hz1_0 : w.heap.size < w1.heap.size := lt_below hb1 ltg; have hl1_0 := Nat.le_of_lt hz1_0; have hA1 := bnext (w0 := w) bgo hb1; have hs1 := hA1.size; clear hb1)
  exact bodyPost_ret (v := .tuple #[IZ, .int .i64 1]) (by simp only [results, Tryz.results50]; go_simp) rfl ⟨rfl, bgo⟩
variable (c2 : ∀ W, Tab W → Calls Tryz.prog 40 #[.int .i64 t] W fun r w' => r = .returned (.tuple #[.agg #[.int .i64 num, .string nm, .int .i64 ba, .int .i64 wi, .int .i64 pr, .int .i64 ex, .int .i64 le, .int .i64 mo, .int .i64 pa, .bool de], .int .i64 0]) ∧ Below W.heap.size W w')
include c2
set_option maxHeartbeats 2000000 in
theorem stg_k (c3 : ∀ W, Calls Tryz.prog 41 #[.int .i64 d] W fun r w' => r = .returned (.bool false) ∧ W = w') :
    Calls Tryz.prog 50 #[.int .i64 t, .int .i64 ba, .int .i64 d] w fun r w' => r = .returned (.tuple #[IZ, .int .i64 1]) ∧ Below w.heap.size w w' := by
  have hsm := cell_set_map
  have hbb : (ba != ba) = false := bne_self_eq_false ba
  go_enter Tryz.func50, Tryz.ntmps50
  go_wp2_with (first
    | (go_at_call 40; refine (c2 _ (hT.go bgo)).mono ?_; rintro r w1 ⟨rfl, hb1⟩; obtain ⟨hc1, hf1⟩ := bcell hb1; have hz1_0 : w.heap.size < w1.heap.size := lt_below hb1 ltg; have hl1_0 := Nat.le_of_lt hz1_0; have hA1 := bnext (w0 := w) bgo hb1; have hs1 := hA1.size; clear hb1)
    | (go_at_call 41; refine (c3 _).mono ?_; rintro r w2 ⟨rfl, rfl⟩))
  exact bodyPost_ret (v := .tuple #[IZ, .int .i64 1]) (by simp only [results, Tryz.results50]; go_simp) rfl ⟨rfl, bgo⟩
set_option maxHeartbeats 2000000 in
theorem stg_y (c3 : ∀ W, Calls Tryz.prog 41 #[.int .i64 d] W fun r w' => r = .returned (.bool true) ∧ W = w') :
    Calls Tryz.prog 50 #[.int .i64 t, .int .i64 ba, .int .i64 d] w fun r w' => r = .returned (.tuple #[.agg #[.int .i64 num, .string nm, .int .i64 ba, .int .i64 wi, .int .i64 pr, .int .i64 ex, .int .i64 le, .int .i64 mo, .int .i64 pa, .bool de], .int .i64 0]) ∧ Below w.heap.size w w' := by
  have hsm := cell_set_map
  have hbb : (ba != ba) = false := bne_self_eq_false ba
  go_enter Tryz.func50, Tryz.ntmps50
  go_wp2_with (first
    | (go_at_call 40; refine (c2 _ (hT.go bgo)).mono ?_; rintro r w1 ⟨rfl, hb1⟩; obtain ⟨hc1, hf1⟩ := bcell hb1; have hz1_0 : w.heap.size < w1.heap.size := lt_below hb1 ltg; have hl1_0 := Nat.le_of_lt hz1_0; have hA1 := bnext (w0 := w) bgo hb1; have hs1 := hA1.size; clear hb1)
    | (go_at_call 41; refine (c3 _).mono ?_; rintro r w2 ⟨rfl, rfl⟩))
  exact bodyPost_ret (v := .tuple #[.agg #[.int .i64 num, .string nm, .int .i64 ba, .int .i64 wi, .int .i64 pr, .int .i64 ex, .int .i64 le, .int .i64 mo, .int .i64 pa, .bool de], .int .i64 0]) (by simp only [results, Tryz.results50]; go_simp) rfl ⟨rfl, bgo⟩
end
/-- what is known of a format, as a value -/
abbrev InfV (t : Int) : Value := .agg #[.int .i64 (numN t), .string (nameN t), .int .i64 (baseN t), .int .i64 (widthN t), .int .i64 (precN t), .int .i64 (expN t), .int .i64 (leastN t), .int .i64 (mostN t), .int .i64 (payN t), .bool (denseN t)]
theorem starg_y {t ba d : Int} (w : World) (hT : Tab w) (h1 : okN t) (h2 : baseN t = ba) (h3 : knB d) :
    Calls Tryz.prog 50 #[.int .i64 t, .int .i64 ba, .int .i64 d] w fun r w' => r = .returned (.tuple #[InfV t, .int .i64 0]) ∧ Below w.heap.size w w' := by
  have c2 := fun W h => ofv_any t W h
  have c3 := fun W => known_any d W
  rw [decide_eq_true h3] at c3
  rw [show infoE t = 0 from if_pos h1, h2] at c2
  unfold InfV
  rw [h2]
  exact stg_y t ba d _ _ _ _ _ _ _ _ _ w hT c2 c3
theorem starg_n {t ba d : Int} (w : World) (hT : Tab w) (h : ¬ (okN t ∧ baseN t = ba ∧ knB d)) :
    Calls Tryz.prog 50 #[.int .i64 t, .int .i64 ba, .int .i64 d] w fun r w' => r = .returned (.tuple #[IZ, .int .i64 1]) ∧ Below w.heap.size w w' := by
  have c2 := fun W h => ofv_any t W h
  have c3 := fun W => known_any d W
  by_cases h1 : okN t
  · rw [show infoE t = 0 from if_pos h1] at c2
    by_cases h2 : baseN t = ba
    · rw [h2] at c2
      by_cases h3 : knB d
      · exact absurd ⟨h1, h2, h3⟩ h
      · rw [decide_eq_false h3] at c3
        exact stg_k t ba d _ _ _ _ _ _ _ _ _ w hT c2 c3
    · exact stg_b t ba d _ _ _ _ _ _ _ _ _ w hT _ (by rw [bne_iff_ne]; exact h2) c2
  · rw [show infoE t = 1 from if_neg h1] at c2
    exact stg_e t ba d _ _ _ _ _ _ _ _ _ w hT _ c2
section
variable (num ba wi pr ex le mo pa c x : Int) (nm : ByteArray) (de s g : Bool) (k Q : Nat) (hk : k < 2 ^ 256) (w : World) (cm : Int)
  (c61 : ∀ W, Calls Tryz.prog 87 #[.int .i64 ba, .int .i64 pa] W fun r w' => ∃ v, r = .returned (.tuple #[v, .int .i64 0]) ∧ Nt 2001 Q v w' ∧ Below W.heap.size W w')
  (c64 : ∀ W v u, Nt 4 k v W → Nt 2001 Q u W → Calls Tryz.prog 99 #[v, u] W fun r w' => r = .returned (.int .i64 cm) ∧ Below W.heap.size W w')
include hk c61 c64
set_option maxHeartbeats 2000000 in
theorem scnv_l (h : cm < 0) :
    Calls Tryz.prog 51 #[.agg #[.int .i64 num, .string nm, .int .i64 ba, .int .i64 wi, .int .i64 pr, .int .i64 ex, .int .i64 le, .int .i64 mo, .int .i64 pa, .bool de], DV c s g x k] w fun r w' => r = .returned (.tuple #[DV c s false x k, .int .i64 (if g then 1 else 0)]) ∧ Below w.heap.size w w' := by
  have hbx := fun W hW => dat_box (w0 := w.alloc (.cells #[.int .i64 num, .string nm, .int .i64 ba, .int .i64 wi, .int .i64 pr, .int .i64 ex, .int .i64 le, .int .i64 mo, .int .i64 pa, .bool de] 53)) (w := W) (c := c) (s := s) (g := g) (x := x) (t := 71) hk hW
  have h' : ¬ 0 ≤ cm := by omega
  have h'' : decide (0 ≤ cm) = false := decide_eq_false h'
  have hsm := cell_set_map
  cases g
  all_goals (
    go_enter Tryz.func51, Tryz.ntmps51
    go_wp2_with (first
      | (go_at_call 87; refine (c61 _).mono ?_; rintro r w1 ⟨v1, rfl, hv1, hb1⟩; have hv0 := hbx _ (bnx (below1 _ _) hb1); obtain ⟨hc1, hf1⟩ := bcell hb1; have hz1_0 : w.heap.size < w1.heap.size := lt_below hb1 ltg; have hl1_0 := Nat.le_of_lt hz1_0; have hz1_1 : w.heap.size + 1 < w1.heap.size := lt_below hb1 ltg; have hl1_1 := Nat.le_of_lt hz1_1; have hz1_2 : w.heap.size + 1 + 1 < w1.heap.size := lt_below hb1 ltg; have hl1_2 := Nat.le_of_lt hz1_2; have hA1 := bnext (w0 := w) bgo hb1; have hs1 := hA1.size; clear hb1)
      | (go_at_call 99; refine (c64 _ _ _ (by simpa using hv0) hv1).mono ?_; rintro r w2 ⟨rfl, hb2⟩; obtain ⟨hc2, hf2⟩ := bcell hb2; have hz2_0 : w.heap.size < w2.heap.size := lt_below hb2 ltg; have hl2_0 := Nat.le_of_lt hz2_0; have hz2_1 : w.heap.size + 1 < w2.heap.size := lt_below hb2 ltg; have hl2_1 := Nat.le_of_lt hz2_1; have hz2_2 : w.heap.size + 1 + 1 < w2.heap.size := lt_below hb2 ltg; have hl2_2 := Nat.le_of_lt hz2_2; have hA2 := bnext (w0 := w) bgo hb2; have hs2 := hA2.size; clear hb2))
    exact bodyPost_ret (by simp only [results, Tryz.results51]; go_simp) rfl ⟨rfl, bgo⟩)
set_option maxHeartbeats 2000000 in
theorem scnv_g (h : 0 ≤ cm) :
    Calls Tryz.prog 51 #[.agg #[.int .i64 num, .string nm, .int .i64 ba, .int .i64 wi, .int .i64 pr, .int .i64 ex, .int .i64 le, .int .i64 mo, .int .i64 pa, .bool de], DV c s g x k] w fun r w' => r = .returned (.tuple #[DV c s false x 0, .int .i64 (if g then 1 else 0)]) ∧ Below w.heap.size w w' := by
  have hbx := fun W hW => dat_box (w0 := w.alloc (.cells #[.int .i64 num, .string nm, .int .i64 ba, .int .i64 wi, .int .i64 pr, .int .i64 ex, .int .i64 le, .int .i64 mo, .int .i64 pa, .bool de] 53)) (w := W) (c := c) (s := s) (g := g) (x := x) (t := 71) hk hW
  have h'' : decide (0 ≤ cm) = true := decide_eq_true h
  have hz : DV c s false x 0 = .agg #[.int .i64 c, .bool s, .bool false, .int .i64 x, .int .u64 0, .int .u64 0, .int .u64 0, .int .u64 0] := by unfold DV; simp only [W4_zero]
  rw [hz]
  clear hz
  have hsm := cell_set_map
  cases g
  all_goals (
    go_enter Tryz.func51, Tryz.ntmps51
    go_wp2_with (first
      | (go_at_call 87; refine (c61 _).mono ?_; rintro r w1 ⟨v1, rfl, hv1, hb1⟩; have hv0 := hbx _ (bnx (below1 _ _) hb1); obtain ⟨hc1, hf1⟩ := bcell hb1; have hz1_0 : w.heap.size < w1.heap.size := lt_below hb1 ltg; have hl1_0 := Nat.le_of_lt hz1_0; have hz1_1 : w.heap.size + 1 < w1.heap.size := lt_below hb1 ltg; have hl1_1 := Nat.le_of_lt hz1_1; have hz1_2 : w.heap.size + 1 + 1 < w1.heap.size := lt_below hb1 ltg; have hl1_2 := Nat.le_of_lt hz1_2; have hA1 := bnext (w0 := w) bgo hb1; have hs1 := hA1.size; clear hb1)
      | (go_at_call 99; refine (c64 _ _ _ (by simpa using hv0) hv1).mono ?_; rintro r w2 ⟨rfl, hb2⟩; obtain ⟨hc2, hf2⟩ := bcell hb2; have hz2_0 : w.heap.size < w2.heap.size := lt_below hb2 ltg; have hl2_0 := Nat.le_of_lt hz2_0; have hz2_1 : w.heap.size + 1 < w2.heap.size := lt_below hb2 ltg; have hl2_1 := Nat.le_of_lt hz2_1; have hz2_2 : w.heap.size + 1 + 1 < w2.heap.size := lt_below hb2 ltg; have hl2_2 := Nat.le_of_lt hz2_2; have hA2 := bnext (w0 := w) bgo hb2; have hs2 := hA2.size; clear hb2))
    exact bodyPost_ret (by simp only [results, Tryz.results51]; go_simp) rfl ⟨rfl, bgo⟩)
end
/-- an infinity or a NaN, as another format has it: the bound of its payloads Q -/
theorem sconv_v (t : Int) (Q : Nat) (hQ : ∀ W, Calls Tryz.prog 87 #[.int .i64 (baseN t), .int .i64 (payN t)] W fun r w' => ∃ v, r = .returned (.tuple #[v, .int .i64 0]) ∧ Nt 2001 Q v w' ∧ Below W.heap.size W w') (c x : Int) (s g : Bool) {k : Nat} (hk : k < 2 ^ 256) (w : World) :
    Calls Tryz.prog 51 #[InfV t, DV c s g x k] w fun r w' => r = .returned (.tuple #[DV c s false x (if k < Q then k else 0), .int .i64 (if g then 1 else 0)]) ∧ Below w.heap.size w w' := by
  have c64 : ∀ W v u, Nt 4 k v W → Nt 2001 Q u W → Calls Tryz.prog 99 #[v, u] W fun r w' => r = .returned (.int .i64 (sgn (k : Int) (Q : Int))) ∧ Below W.heap.size W w' := fun W v u h1 h2 => ncmp_v (by decide) (by decide) h1 h2
  by_cases h : k < Q
  · rw [if_pos h]
    refine scnv_l _ _ _ _ _ _ _ _ c x _ _ s g k Q hk w _ hQ c64 ?_
    rcases sgn_ways (k : Int) (Q : Int) with ⟨x, e⟩ | ⟨x, e⟩ | ⟨x, e⟩ <;> omega
  · rw [if_neg h]
    refine scnv_g _ _ _ _ _ _ _ _ c x _ _ s g k Q hk w _ hQ c64 ?_
    rcases sgn_ways (k : Int) (Q : Int) with ⟨x, e⟩ | ⟨x, e⟩ | ⟨x, e⟩ <;> omega
/-- the bound of a binary format's payloads -/
theorem bin_bound {t : Int} (hb : binN t) (W : World) : Calls Tryz.prog 87 #[.int .i64 (baseN t), .int .i64 (payN t)] W fun r w' => ∃ v, r = .returned (.tuple #[v, .int .i64 0]) ∧ Nt 2001 (2 ^ (fN t - 1)) v w' ∧ Below W.heap.size W w' := by
  obtain ⟨f1, f2, f3, f4, f5, f6⟩ := bin_fields hb
  have h2 := fN_two hb
  have h240 := (bin_fm hb).f240
  rw [f2, f6, show (fN t : Int) - 1 = ((fN t - 1 : Nat) : Int) by omega]
  exact npow2z (fN t - 1) W (by omega)
end
end Go.Proofs.YtpemdcnneabbfaaGreatDoor
