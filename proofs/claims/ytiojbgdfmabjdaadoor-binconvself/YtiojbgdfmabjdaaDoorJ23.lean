/-
  Texts that the proof leans on.
-/
import Derived.Test.YtiojbgdfmabjdaaDoorJ22
import Derived.Test.YtiojbgdfmabjdaaDoorJ4
set_option linter.unusedVariables false
set_option linter.unusedSectionVars false
set_option linter.unusedSimpArgs false
set_option maxRecDepth 20000
namespace Go.Proofs.YtiojbgdfmabjdaaDoor
open Go.RowKit
section
/-- a binary format -/
def binN (n : Int) : Prop := 1 ≤ n ∧ n ≤ 6
instance (n : Int) : Decidable (binN n) := inferInstanceAs (Decidable (_ ∧ _))
def fN (n : Int) : Nat := (precN n - 1).toNat
def eN (n : Int) : Nat := (expN n).toNat
theorem bin_cases {n : Int} (h : binN n) : n = 1 ∨ n = 2 ∨ n = 3 ∨ n = 4 ∨ n = 5 ∨ n = 6 := by unfold binN at h; omega
theorem bin_fm {n : Int} (h : binN n) : Fm (fN n) (eN n) (leastN n) (mostN n) := by
  rcases bin_cases h with rfl | rfl | rfl | rfl | rfl | rfl <;> exact ⟨by decide, by decide, by decide, by decide, by decide, by decide, by decide, by decide⟩
theorem bin_fields {n : Int} (h : binN n) : okN n ∧ baseN n = 2 ∧ precN n = (fN n : Int) + 1 ∧ expN n = (eN n : Int) ∧ widthN n = ((fN n + eN n + 1 : Nat) : Int) ∧ payN n = (fN n : Int) - 1 := by
  rcases bin_cases h with rfl | rfl | rfl | rfl | rfl | rfl <;> exact ⟨by decide, by decide, by decide, by decide, by decide, by decide⟩
theorem not_bin {n : Int} (h : ¬ binN n) : (okN n ∧ baseN n = 10) ∨ ¬ okN n := by
  by_cases hk : okN n
  · left
    refine ⟨hk, ?_⟩
    rcases okN_cases hk with rfl | rfl | rfl | rfl | rfl | rfl | rfl | rfl | rfl | rfl | rfl | rfl <;> first | rfl | exact absurd (by decide) h
  · exact Or.inr hk
abbrev LZ : Value := .agg #[.int .i64 0, .int .i64 0, .int .i64 0, .int .i64 0]

set_option maxHeartbeats 1000000 in
theorem layoutOf_ok (n : Int) (w : World) (hT : Tab w) (h : binN n) :
    Calls Tryd.prog 29 #[.int .i64 n] w fun x w' => x = .returned (.tuple #[LV (fN n) (eN n) (leastN n) (mostN n), .int .i64 0]) ∧ Below w.heap.size w w' := by
  have c1 := fun w hT => ofv_any n w hT
  obtain ⟨hk, hb, hp, he, hw, hy⟩ := bin_fields h
  have hE : infoE n = 0 := if_pos hk
  have hF := bin_fm h
  have hf1 := hF.f240
  simp only [hE, hb, hp, he] at c1
  clear hE hb hp he hw hy hk hF
  go_enter Tryd.func29, Tryd.ntmps29
  go_wp2_with (go_at_call 43; refine (c1 _ (hT.alloc _)).mono ?_; rintro x w1 ⟨rfl, hb1⟩; obtain ⟨hc1, hf1⟩ := bcell hb1; have hz1_0 : w.heap.size < w1.heap.size := lt_below hb1 ltg; have hl1_0 := Nat.le_of_lt hz1_0; have hA1 := bnext (w0 := w) bgo hb1; have hs1 := hA1.size; clear hb1)
  have hsm := cell_set_map
  exact bodyPost_ret (v := .tuple #[LV (fN n) (eN n) (leastN n) (mostN n), .int .i64 0]) (by simp only [results, Tryd.results29]; go_simp) rfl ⟨rfl, bgo⟩
set_option maxHeartbeats 1000000 in
theorem layoutOf_bad (n : Int) (w : World) (hT : Tab w) (h : ¬ binN n) :
    Calls Tryd.prog 29 #[.int .i64 n] w fun x w' => x = .returned (.tuple #[LZ, .int .i64 1]) ∧ Below w.heap.size w w' := by
  have c1 := fun w hT => ofv_any n w hT
  rcases not_bin h with ⟨hk, hb⟩ | hk
  · have hE : infoE n = 0 := if_pos hk
    simp only [hE, hb] at c1
    clear hE hb hk h
    go_enter Tryd.func29, Tryd.ntmps29
    go_wp2_with (go_at_call 43; refine (c1 _ (hT.alloc _)).mono ?_; rintro x w1 ⟨rfl, hb1⟩; obtain ⟨hc1, hf1⟩ := bcell hb1; have hz1_0 : w.heap.size < w1.heap.size := lt_below hb1 ltg; have hl1_0 := Nat.le_of_lt hz1_0; have hA1 := bnext (w0 := w) bgo hb1; have hs1 := hA1.size; clear hb1)
    have hsm := cell_set_map
    exact bodyPost_ret (v := .tuple #[LZ, .int .i64 1]) (by simp only [results, Tryd.results29]; go_simp) rfl ⟨rfl, bgo⟩
  · have hE : infoE n = 1 := if_neg hk
    simp only [hE] at c1
    clear hE hk h
    go_enter Tryd.func29, Tryd.ntmps29
    go_wp2_with (go_at_call 43; refine (c1 _ (hT.alloc _)).mono ?_; rintro x w1 ⟨rfl, hb1⟩; obtain ⟨hc1, hf1⟩ := bcell hb1; have hz1_0 : w.heap.size < w1.heap.size := lt_below hb1 ltg; have hl1_0 := Nat.le_of_lt hz1_0; have hA1 := bnext (w0 := w) bgo hb1; have hs1 := hA1.size; clear hb1)
    have hsm := cell_set_map
    exact bodyPost_ret (v := .tuple #[LZ, .int .i64 1]) (by simp only [results, Tryd.results29]; go_simp) rfl ⟨rfl, bgo⟩

/-- a binary format's pattern -/
def goodN (n : Int) (B : Nat) : Prop := binN n ∧ B < 2 ^ (fN n + eN n + 1)
instance (n : Int) (B : Nat) : Decidable (goodN n B) := inferInstanceAs (Decidable (_ ∧ _))
theorem A4_get (B : Nat) : ∀ i, i < 4 → (#[Value.int .u64 (W4 B 0), .int .u64 (W4 B 1), .int .u64 (W4 B 2), .int .u64 (W4 B 3)] : Array Value)[i]? = some (.int .u64 (W4 B i)) := fun i hi => by
  have : i = 0 ∨ i = 1 ∨ i = 2 ∨ i = 3 := by omega
  rcases this with rfl | rfl | rfl | rfl <;> rfl
theorem fits4 (n : Int) (B : Nat) (hB : B < 2 ^ 256) (w : World) (hT : Tab w) :
    Calls Tryd.prog 34 #[.int .i64 n, A4 B] w fun x w' => x = .returned (.bool (decide (okN n ∧ B < 2 ^ (widthN n).toNat))) ∧ Below w.heap.size w w' := by
  refine (fits_any n (W4 B) (W4_words B) _ (A4_get B) rfl w hT).mono ?_
  rintro x w' ⟨rfl, hb⟩
  refine ⟨?_, hb⟩
  have hwd := (fields_bounds n).2.1
  have e : (fitsP n (W4 B)) ↔ (okN n ∧ B < 2 ^ (widthN n).toNat) := by
    unfold fitsP
    rw [lenL_low]
    have := len4_le (k := (widthN n).toNat) hB
    rw [show (((widthN n).toNat : Nat) : Int) = widthN n by omega] at this
    rw [this]
  rw [decide_eq_decide.2 e]
set_option maxHeartbeats 1000000 in
theorem layoutFor_ok (n : Int) (B : Nat) (w : World) (hT : Tab w) (hB : B < 2 ^ 256) (h : goodN n B) :
    Calls Tryd.prog 20 #[.int .i64 n, A4 B] w fun x w' => x = .returned (.tuple #[LV (fN n) (eN n) (leastN n) (mostN n), .int .i64 0]) ∧ Below w.heap.size w w' := by
  have hF := bin_fields h.1
  have c42 := fun w hT => fits4 n B hB w hT
  rw [decide_eq_true (show okN n ∧ B < 2 ^ (widthN n).toNat from ⟨hF.1, by rw [hF.2.2.2.2.1, Int.toNat_natCast]; exact h.2⟩)] at c42
  have c31 := fun w hT => layoutOf_ok n w hT h.1
  clear hF h hB
  go_enter Tryd.func20, Tryd.ntmps20
  go_wp2_with (first
    | (go_at_call 34; refine (c42 _ ((hT.alloc _).alloc _)).mono ?_; rintro x w1 ⟨rfl, hb1⟩; obtain ⟨hc1, hf1⟩ := bcell hb1; have hz1_0 : w.heap.size < w1.heap.size := lt_below hb1 ltg; have hl1_0 := Nat.le_of_lt hz1_0; have hz1_1 : w.heap.size + 1 < w1.heap.size := lt_below hb1 ltg; have hl1_1 := Nat.le_of_lt hz1_1; have hA1 := bnext (w0 := w) bgo hb1; have hs1 := hA1.size; clear hb1)
    | (go_at_call 29; refine (c31 _ (hT.go hA1)).mono ?_; rintro x w2 ⟨rfl, hb2⟩; obtain ⟨hc2, hf2⟩ := bcell hb2; have hz2_0 : w.heap.size < w2.heap.size := lt_below hb2 ltg; have hl2_0 := Nat.le_of_lt hz2_0; have hz2_1 : w.heap.size + 1 < w2.heap.size := lt_below hb2 ltg; have hl2_1 := Nat.le_of_lt hz2_1; have hA2 := bnext (w0 := w) bgo hb2; have hs2 := hA2.size; clear hb2))
  have hsm := cell_set_map
  exact bodyPost_ret (v := .tuple #[LV (fN n) (eN n) (leastN n) (mostN n), .int .i64 0]) (by simp only [results, Tryd.results20]; go_simp) rfl ⟨rfl, bgo⟩
set_option maxHeartbeats 1000000 in
theorem layoutFor_bad (n : Int) (B : Nat) (w : World) (hT : Tab w) (hB : B < 2 ^ 256) (h : ¬ goodN n B) :
    Calls Tryd.prog 20 #[.int .i64 n, A4 B] w fun x w' => x = .returned (.tuple #[LZ, .int .i64 1]) ∧ Below w.heap.size w w' := by
  have c42 := fun w hT => fits4 n B hB w hT
  by_cases hf : okN n ∧ B < 2 ^ (widthN n).toNat
  · rw [decide_eq_true hf] at c42
    have hnb : ¬ binN n := fun hb => h ⟨hb, by have := bin_fields hb; rw [this.2.2.2.2.1, Int.toNat_natCast] at hf; exact hf.2⟩
    have c31 := fun w hT => layoutOf_bad n w hT hnb
    clear h hB hf hnb
    go_enter Tryd.func20, Tryd.ntmps20
    go_wp2_with (first
      | (go_at_call 34; refine (c42 _ ((hT.alloc _).alloc _)).mono ?_; rintro x w1 ⟨rfl, hb1⟩; obtain ⟨hc1, hf1⟩ := bcell hb1; have hz1_0 : w.heap.size < w1.heap.size := lt_below hb1 ltg; have hl1_0 := Nat.le_of_lt hz1_0; have hz1_1 : w.heap.size + 1 < w1.heap.size := lt_below hb1 ltg; have hl1_1 := Nat.le_of_lt hz1_1; have hA1 := bnext (w0 := w) bgo hb1; have hs1 := hA1.size; clear hb1)
      | (go_at_call 29; refine (c31 _ (hT.go hA1)).mono ?_; rintro x w2 ⟨rfl, hb2⟩; obtain ⟨hc2, hf2⟩ := bcell hb2; have hz2_0 : w.heap.size < w2.heap.size := lt_below hb2 ltg; have hl2_0 := Nat.le_of_lt hz2_0; have hz2_1 : w.heap.size + 1 < w2.heap.size := lt_below hb2 ltg; have hl2_1 := Nat.le_of_lt hz2_1; have hA2 := bnext (w0 := w) bgo hb2; have hs2 := hA2.size; clear hb2))
    have hsm := cell_set_map
    exact bodyPost_ret (v := .tuple #[LZ, .int .i64 1]) (by simp only [results, Tryd.results20]; go_simp) rfl ⟨rfl, bgo⟩
  · rw [decide_eq_false hf] at c42
    clear h hB hf
    go_enter Tryd.func20, Tryd.ntmps20
    go_wp2_with (go_at_call 34; refine (c42 _ ((hT.alloc _).alloc _)).mono ?_; rintro x w1 ⟨rfl, hb1⟩; obtain ⟨hc1, hf1⟩ := bcell hb1; have hz1_0 : w.heap.size < w1.heap.size := lt_below hb1 ltg; have hl1_0 := Nat.le_of_lt hz1_0; have hz1_1 : w.heap.size + 1 < w1.heap.size := lt_below hb1 ltg; have hl1_1 := Nat.le_of_lt hz1_1; have hA1 := bnext (w0 := w) bgo hb1; have hs1 := hA1.size; clear hb1)
    have hsm := cell_set_map
    exact bodyPost_ret (v := .tuple #[LZ, .int .i64 1]) (by simp only [results, Tryd.results20]; go_simp) rfl ⟨rfl, bgo⟩
end
section
/-- what a pattern means -/
def unp (f e : Nat) (l : Int) (B : Nat) : Dat :=
  if B / 2 ^ f % 2 ^ e = 2 ^ e - 1 then spc f (sgB f e B) (B % 2 ^ f)
  else if B / 2 ^ f % 2 ^ e = 0 then ⟨1, sgB f e B, false, l, B % 2 ^ f⟩
  else ⟨1, sgB f e B, false, l + ((B / 2 ^ f % 2 ^ e : Nat) - 1 : Int), B % 2 ^ f + 2 ^ f⟩

set_option maxHeartbeats 1000000 in
theorem unpack_bad (n : Int) (B : Nat) (w : World) (hT : Tab w) (hB : B < 2 ^ 256) (h : ¬ goodN n B) :
    Calls Tryd.prog 12 #[.int .i64 n, A4 B] w fun x w' => x = .returned (.tuple #[DV 0 false false 0 0, .int .i64 1]) ∧ Below w.heap.size w w' := by
  have c18 := fun w hT => layoutFor_bad n B w hT hB h
  unfold DV
  simp only [W4_zero]
  clear h hB
  go_enter Tryd.func12, Tryd.ntmps12
  go_wp2_with (go_at_call 20; refine (c18 _ ((hT.alloc _).alloc _)).mono ?_; rintro x w1 ⟨rfl, hb1⟩; obtain ⟨hc1, hf1⟩ := bcell hb1; have hz1_0 : w.heap.size < w1.heap.size := lt_below hb1 ltg; have hl1_0 := Nat.le_of_lt hz1_0; have hz1_1 : w.heap.size + 1 < w1.heap.size := lt_below hb1 ltg; have hl1_1 := Nat.le_of_lt hz1_1; have hA1 := bnext (w0 := w) bgo hb1; have hs1 := hA1.size; clear hb1)
  have hsm := cell_set_map
  exact bodyPost_ret (v := .tuple #[.agg #[.int .i64 0, .bool false, .bool false, .int .i64 0, .int .u64 0, .int .u64 0, .int .u64 0, .int .u64 0], .int .i64 1]) (by simp only [results, Tryd.results12]; go_simp) rfl ⟨rfl, bgo⟩

section
variable (n : Int) (B : Nat) (f e : Nat) (l m : Int) (w : World) (hT : Tab w) (S : Bool) (E sp : Int) (Fr : Nat)
  (c18 : ∀ w, Tab w → Calls Tryd.prog 20 #[.int .i64 n, A4 B] w fun x w' => x = .returned (.tuple #[LV f e l m, .int .i64 0]) ∧ Below w.heap.size w w')
  (c19 : ∀ w, Calls Tryd.prog 21 #[LV f e l m, A4 B] w fun x w' => x = .returned (.tuple #[.bool S, .int .u64 E, A4 Fr]) ∧ Below w.heap.size w w')
  (c20 : ∀ w, Calls Tryd.prog 22 #[LV f e l m] w fun x w' => x = .returned (.int .u64 sp) ∧ Below w.heap.size w w')
include hT c18 c19 c20
set_option maxHeartbeats 1000000 in
theorem unpack_sp (D : Dat) (c21 : ∀ w, Calls Tryd.prog 23 #[LV f e l m, .bool S, A4 Fr] w fun x w' => x = .returned D.v ∧ Below w.heap.size w w') (hE : (E == sp) = true) :
    Calls Tryd.prog 12 #[.int .i64 n, A4 B] w fun x w' => x = .returned (.tuple #[D.v, .int .i64 0]) ∧ Below w.heap.size w w' := by
  obtain ⟨dc, ds, dg, dx, dk⟩ := D
  unfold Dat.v at *
  dsimp only at *
  go_enter Tryd.func12, Tryd.ntmps12
  go_wp2_with (first
    | (go_at_call 20; refine (c18 _ ((hT.alloc _).alloc _)).mono ?_; rintro x w1 ⟨rfl, hb1⟩; obtain ⟨hc1, hf1⟩ := bcell hb1; have hz1_0 : w.heap.size < w1.heap.size := lt_below hb1 ltg; have hl1_0 := Nat.le_of_lt hz1_0; have hz1_1 : w.heap.size + 1 < w1.heap.size := lt_below hb1 ltg; have hl1_1 := Nat.le_of_lt hz1_1; have hA1 := bnext (w0 := w) bgo hb1; have hs1 := hA1.size; clear hb1)
    | (go_at_call 21; refine (c19 _).mono ?_; rintro x w2 ⟨rfl, hb2⟩; obtain ⟨hc2, hf2⟩ := bcell hb2; have hz2_0 : w.heap.size < w2.heap.size := lt_below hb2 ltg; have hl2_0 := Nat.le_of_lt hz2_0; have hz2_1 : w.heap.size + 1 < w2.heap.size := lt_below hb2 ltg; have hl2_1 := Nat.le_of_lt hz2_1; have hz2_2 : w1.heap.size < w2.heap.size := lt_below hb2 ltg; have hl2_2 := Nat.le_of_lt hz2_2; have hA2 := bnext (w0 := w) bgo hb2; have hs2 := hA2.size; clear hb2)
    | (go_at_call 22; refine (c20 _).mono ?_; rintro x w3 ⟨rfl, hb3⟩; obtain ⟨hc3, hf3⟩ := bcell hb3; have hz3_0 : w.heap.size < w3.heap.size := lt_below hb3 ltg; have hl3_0 := Nat.le_of_lt hz3_0; have hz3_1 : w.heap.size + 1 < w3.heap.size := lt_below hb3 ltg; have hl3_1 := Nat.le_of_lt hz3_1; have hz3_2 : w1.heap.size < w3.heap.size := lt_below hb3 ltg; have hl3_2 := Nat.le_of_lt hz3_2; have hz3_3 : w2.heap.size < w3.heap.size := lt_below hb3 ltg; have hl3_3 := Nat.le_of_lt hz3_3; have hA3 := bnext (w0 := w) bgo hb3; have hs3 := hA3.size; clear hb3)
    | (go_at_call 23; refine (c21 _).mono ?_; rintro x w4 ⟨rfl, hb4⟩; obtain ⟨hc4, hf4⟩ := bcell hb4; have hz4_0 : w.heap.size < w4.heap.size := lt_below hb4 ltg; have hl4_0 := Nat.le_of_lt hz4_0; have hz4_1 : w.heap.size + 1 < w4.heap.size := lt_below hb4 ltg; have hl4_1 := Nat.le_of_lt hz4_1; have hz4_2 : w1.heap.size < w4.heap.size := lt_below hb4 ltg; have hl4_2 := Nat.le_of_lt hz4_2; have hz4_3 : w2.heap.size < w4.heap.size := lt_below hb4 ltg; have hl4_3 := Nat.le_of_lt hz4_3; have hA4 := bnext (w0 := w) bgo hb4; have hs4 := hA4.size; clear hb4))
  have hsm := cell_set_map
  exact bodyPost_ret (v := .tuple #[DV dc ds dg dx dk, .int .i64 0]) (by simp only [results, Tryd.results12]; go_simp) rfl ⟨rfl, bgo⟩
set_option maxHeartbeats 1000000 in
theorem unpack_sub (hE : (E == sp) = false) (hE0 : E = 0) :
    Calls Tryd.prog 12 #[.int .i64 n, A4 B] w fun x w' => x = .returned (.tuple #[DV 1 S false l Fr, .int .i64 0]) ∧ Below w.heap.size w w' := by
  subst hE0
  go_enter Tryd.func12, Tryd.ntmps12
  go_wp2_with (first
    | (go_at_call 20; refine (c18 _ ((hT.alloc _).alloc _)).mono ?_; rintro x w1 ⟨rfl, hb1⟩; obtain ⟨hc1, hf1⟩ := bcell hb1; have hz1_0 : w.heap.size < w1.heap.size := lt_below hb1 ltg; have hl1_0 := Nat.le_of_lt hz1_0; have hz1_1 : w.heap.size + 1 < w1.heap.size := lt_below hb1 ltg; have hl1_1 := Nat.le_of_lt hz1_1; have hA1 := bnext (w0 := w) bgo hb1; have hs1 := hA1.size; clear hb1)
    | (go_at_call 21; refine (c19 _).mono ?_; rintro x w2 ⟨rfl, hb2⟩; obtain ⟨hc2, hf2⟩ := bcell hb2; have hz2_0 : w.heap.size < w2.heap.size := lt_below hb2 ltg; have hl2_0 := Nat.le_of_lt hz2_0; have hz2_1 : w.heap.size + 1 < w2.heap.size := lt_below hb2 ltg; have hl2_1 := Nat.le_of_lt hz2_1; have hz2_2 : w1.heap.size < w2.heap.size := lt_below hb2 ltg; have hl2_2 := Nat.le_of_lt hz2_2; have hA2 := bnext (w0 := w) bgo hb2; have hs2 := hA2.size; clear hb2)
    | (go_at_call 22; refine (c20 _).mono ?_; rintro x w3 ⟨rfl, hb3⟩; obtain ⟨hc3, hf3⟩ := bcell hb3; have hz3_0 : w.heap.size < w3.heap.size := lt_below hb3 ltg; have hl3_0 := Nat.le_of_lt hz3_0; have hz3_1 : w.heap.size + 1 < w3.heap.size := lt_below hb3 ltg; have hl3_1 := Nat.le_of_lt hz3_1; have hz3_2 : w1.heap.size < w3.heap.size := lt_below hb3 ltg; have hl3_2 := Nat.le_of_lt hz3_2; have hz3_3 : w2.heap.size < w3.heap.size := lt_below hb3 ltg; have hl3_3 := Nat.le_of_lt hz3_3; have hA3 := bnext (w0 := w) bgo hb3; have hs3 := hA3.size; clear hb3))
  have hsm := cell_set_map
  exact bodyPost_ret (v := .tuple #[DV 1 S false l Fr, .int .i64 0]) (by simp only [results, Tryd.results12]; go_simp) rfl ⟨rfl, bgo⟩
set_option maxHeartbeats 2000000 in
theorem unpack_norm (Pw Co : Nat) (cr : Int) (hl : -1000000 ≤ l ∧ l ≤ 0) (hE : (E == sp) = false) (hE0 : 0 < E) (hE1 : E ≤ 32768)
    (c23 : ∀ w, Calls Tryd.prog 25 #[.int .i64 f] w fun x w' => x = .returned (A4 Pw) ∧ Below w.heap.size w w')
    (c22 : ∀ w, Calls Tryd.prog 24 #[A4 Fr, A4 Pw] w fun x w' => x = .returned (.tuple #[A4 Co, .int .u64 cr]) ∧ Below w.heap.size w w') :
    Calls Tryd.prog 12 #[.int .i64 n, A4 B] w fun x w' => x = .returned (.tuple #[DV 1 S false (l + (E - 1)) Co, .int .i64 0]) ∧ Below w.heap.size w w' := by
  go_enter Tryd.func12, Tryd.ntmps12
  go_wp2_with (first
    | (go_at_call 20; refine (c18 _ ((hT.alloc _).alloc _)).mono ?_; rintro x w1 ⟨rfl, hb1⟩; obtain ⟨hc1, hf1⟩ := bcell hb1; have hz1_0 : w.heap.size < w1.heap.size := lt_below hb1 ltg; have hl1_0 := Nat.le_of_lt hz1_0; have hz1_1 : w.heap.size + 1 < w1.heap.size := lt_below hb1 ltg; have hl1_1 := Nat.le_of_lt hz1_1; have hA1 := bnext (w0 := w) bgo hb1; have hs1 := hA1.size; clear hb1)
    | (go_at_call 21; refine (c19 _).mono ?_; rintro x w2 ⟨rfl, hb2⟩; obtain ⟨hc2, hf2⟩ := bcell hb2; have hz2_0 : w.heap.size < w2.heap.size := lt_below hb2 ltg; have hl2_0 := Nat.le_of_lt hz2_0; have hz2_1 : w.heap.size + 1 < w2.heap.size := lt_below hb2 ltg; have hl2_1 := Nat.le_of_lt hz2_1; have hz2_2 : w1.heap.size < w2.heap.size := lt_below hb2 ltg; have hl2_2 := Nat.le_of_lt hz2_2; have hA2 := bnext (w0 := w) bgo hb2; have hs2 := hA2.size; clear hb2)
    | (go_at_call 22; refine (c20 _).mono ?_; rintro x w3 ⟨rfl, hb3⟩; obtain ⟨hc3, hf3⟩ := bcell hb3; have hz3_0 : w.heap.size < w3.heap.size := lt_below hb3 ltg; have hl3_0 := Nat.le_of_lt hz3_0; have hz3_1 : w.heap.size + 1 < w3.heap.size := lt_below hb3 ltg; have hl3_1 := Nat.le_of_lt hz3_1; have hz3_2 : w1.heap.size < w3.heap.size := lt_below hb3 ltg; have hl3_2 := Nat.le_of_lt hz3_2; have hz3_3 : w2.heap.size < w3.heap.size := lt_below hb3 ltg; have hl3_3 := Nat.le_of_lt hz3_3; have hA3 := bnext (w0 := w) bgo hb3; have hs3 := hA3.size; clear hb3))
  have hn1 : w1.heap.size ≠ w.heap.size := by omega
  have hn2 : w1.heap.size ≠ w.heap.size + 1 := by omega
  have hn3 : w2.heap.size ≠ w1.heap.size := by omega
  refine wp_made 5 8 12 #[.int .u64 0, .int .u64 0, .int .u64 0, .int .u64 0] (by kernel_rfl) (by kernel_rfl) (by kernel_rfl) rfl (fun oa hoa a w => ?_) (by kernel_rfl) (by kernel_rfl) rfl rfl (fun _ _ d _ _ h => by cases d <;> exact h) ?_
  · cases hoa; exact ⟨23, by simp [go_sem]⟩
  apply Exists.intro
  refine ⟨fun al hne hcell => ?_, fun w4 hb4 => ?_, fun g w4 hb4 hg0 hg1 hg2 hg3 => ?_⟩
  · simp only [List.take_succ_cons, List.take_zero]
    repeat go_big_quiet_step (fail)
    go_big_quiet_step ((go_at_call 25; exact calls_wd _ al_next (c23 _)))
    repeat go_big_quiet_step (fail)
    go_big_quiet_step ((go_at_call 24; exact calls_wd _ al_next (c22 _)))
    exact wpQuiet_nil rfl
  · simp only [List.drop_succ_cons, List.drop_zero]
    obtain ⟨hc4, hf4⟩ := bcell hb4; have hz4_0 : w.heap.size < w4.heap.size := lt_below hb4 ltg; have hl4_0 := Nat.le_of_lt hz4_0; have hz4_1 : w.heap.size + 1 < w4.heap.size := lt_below hb4 ltg; have hl4_1 := Nat.le_of_lt hz4_1; have hz4_2 : w1.heap.size < w4.heap.size := lt_below hb4 ltg; have hl4_2 := Nat.le_of_lt hz4_2; have hz4_3 : w2.heap.size < w4.heap.size := lt_below hb4 ltg; have hl4_3 := Nat.le_of_lt hz4_3; have hz4_4 : w3.heap.size < w4.heap.size := lt_below hb4 ltg; have hl4_4 := Nat.le_of_lt hz4_4; have hA4 := bnext (w0 := w) bgo hb4; have hs4 := hA4.size; clear hb4
    have hsm := cell_set_map
    go_wp2
    exact bodyPost_ret (v := .tuple #[DV 1 S false (l + (E - 1)) Co, .int .i64 0]) (by simp only [results, Tryd.results12]; go_simp) rfl ⟨rfl, bgo⟩
  · simp only [List.drop_succ_cons, List.drop_zero, Nat.reduceSub, List.eraseIdx_cons_succ, List.eraseIdx_cons_zero]
    simp only [World.size_alloc] at hg0
    have hgw := hA3.size
    have hz0 : g ≠ w.heap.size := by omega
    have hz1 : g ≠ w.heap.size + 1 := by omega
    have hz2 : g ≠ w1.heap.size := by omega
    have hz3 : g ≠ w2.heap.size := by omega
    have hz4 : g ≠ w3.heap.size := by omega
    obtain ⟨hc4, hf4⟩ := bcell hb4; have hz4_0 : w.heap.size < w4.heap.size := lt_below hb4 ltg; have hl4_0 := Nat.le_of_lt hz4_0; have hz4_1 : w.heap.size + 1 < w4.heap.size := lt_below hb4 ltg; have hl4_1 := Nat.le_of_lt hz4_1; have hz4_2 : w1.heap.size < w4.heap.size := lt_below hb4 ltg; have hl4_2 := Nat.le_of_lt hz4_2; have hz4_3 : w2.heap.size < w4.heap.size := lt_below hb4 ltg; have hl4_3 := Nat.le_of_lt hz4_3; have hz4_4 : w3.heap.size < w4.heap.size := lt_below hb4 ltg; have hl4_4 := Nat.le_of_lt hz4_4; have hA4 := bnext (w0 := w) bgo hb4; have hs4 := hA4.size; clear hb4
    have hsm := cell_set_map
    go_wp2
    exact bodyPost_ret (v := .tuple #[DV 1 S false (l + (E - 1)) Co, .int .i64 0]) (by simp only [results, Tryd.results12]; go_simp) rfl ⟨rfl, bgo⟩
end
theorem unpack_ok (n : Int) (B : Nat) (w : World) (hT : Tab w) (hB : B < 2 ^ 256) (h : goodN n B) :
    Calls Tryd.prog 12 #[.int .i64 n, A4 B] w fun x w' => x = .returned (.tuple #[(unp (fN n) (eN n) (leastN n) B).v, .int .i64 0]) ∧ Below w.heap.size w w' := by
  have hF := bin_fm h.1
  have c18 := fun w hT => layoutFor_ok n B w hT hB h
  have c19 := fun w => split_any (fN n) (eN n) (leastN n) (mostN n) B w hF hB
  have c20 := fun w => special_any (fN n) (eN n) (leastN n) (mostN n) w hF
  have hf240 := hF.f240
  have hp := pow_e hF.e2 hF.e15
  have hpc : ((2 : Int) ^ eN n) = ((2 ^ eN n : Nat) : Int) := by simp
  have hmod : B / 2 ^ fN n % 2 ^ eN n < 2 ^ eN n := Nat.mod_lt _ (Nat.two_pow_pos _)
  have hfr : B % 2 ^ fN n < 2 ^ fN n := Nat.mod_lt _ (Nat.two_pow_pos _)
  have hf256 : 2 ^ fN n < 2 ^ 256 := Nat.pow_lt_pow_right (by decide) (by omega)
  unfold unp
  by_cases h1 : B / 2 ^ fN n % 2 ^ eN n = 2 ^ eN n - 1
  · rw [if_pos h1]
    exact unpack_sp n B _ _ _ _ w hT _ _ _ _ c18 c19 c20 _ (fun w => special_spc (fN n) (eN n) (leastN n) (mostN n) (sgB (fN n) (eN n) B) (B % 2 ^ fN n) w hF (by omega)) (by rw [h1]; simp)
  · rw [if_neg h1]
    have hE : (((B / 2 ^ fN n % 2 ^ eN n : Nat) : Int) == ((2 ^ eN n - 1 : Nat) : Int)) = false := by
      rw [beq_eq_false_iff_ne]; omega
    by_cases h2 : B / 2 ^ fN n % 2 ^ eN n = 0
    · rw [if_pos h2]
      exact unpack_sub n B _ _ _ _ w hT _ _ _ _ c18 c19 c20 hE (by omega)
    · rw [if_neg h2]
      have h256 : (2 : Nat) ^ 256 = 115792089237316195423570985008687907853269984665640564039457584007913129639936 := by decide
      exact unpack_norm n B _ _ _ _ w hT _ _ _ _ c18 c19 c20 (2 ^ fN n) (B % 2 ^ fN n + 2 ^ fN n) _ ⟨hF.l1, hF.l0⟩ hE (by omega) (by rw [hpc] at hp; omega) (fun w => power_any (fN n) w (by omega)) (fun w => add4 (B % 2 ^ fN n) (2 ^ fN n) w (by omega) hf256)
end
section
section
variable (f e : Nat) (l m : Int) (w : World) (E F Sh J Pw K : Nat) (cr cr' : Int)
  (c49 : ∀ w, Calls Tryd.prog 42 #[.int .u64 E] w fun x w' => x = .returned (A4 E) ∧ Below w.heap.size w w')
  (c45 : ∀ w, Calls Tryd.prog 38 #[A4 E, .int .i64 f] w fun x w' => x = .returned (A4 Sh) ∧ Below w.heap.size w w')
  (c22 : ∀ w, Calls Tryd.prog 24 #[A4 Sh, A4 F] w fun x w' => x = .returned (.tuple #[A4 J, .int .u64 cr]) ∧ Below w.heap.size w w')
include c49 c45 c22
set_option maxHeartbeats 1000000 in
theorem join_f : Calls Tryd.prog 48 #[LV f e l m, .bool false, .int .u64 E, A4 F] w fun x w' => x = .returned (A4 J) ∧ Below w.heap.size w w' := by
  generalize (E : Int) = Ei at *
  go_enter Tryd.func48, Tryd.ntmps48
  go_wp2
  refine wp_made 7 10 9 #[.int .u64 0, .int .u64 0, .int .u64 0, .int .u64 0] (by kernel_rfl) (by kernel_rfl) (by kernel_rfl) rfl (fun oa hoa a w => ?_) (by kernel_rfl) (by kernel_rfl) rfl rfl (fun _ _ d _ _ h => by cases d <;> exact h) ?_
  · cases hoa; exact ⟨23, by simp [go_sem]⟩
  apply Exists.intro
  refine ⟨fun al hne hcell => ?_, fun w1 hb1 => ?_, fun g w1 hb1 hg0 hg1 hg2 hg3 => ?_⟩
  · simp only [List.take_succ_cons, List.take_zero]
    repeat go_big_quiet_step (fail)
    go_big_quiet_step ((go_at_call 42; exact calls_wd _ al_next (c49 _)))
    repeat go_big_quiet_step (fail)
    go_big_quiet_step ((go_at_call 38; exact calls_wd _ al_next (c45 _)))
    repeat go_big_quiet_step (fail)
    go_big_quiet_step ((go_at_call 24; exact calls_wd _ al_next (c22 _)))
    exact wpQuiet_nil rfl
  · simp only [List.drop_succ_cons, List.drop_zero]
    obtain ⟨hc1, hf1⟩ := bcell hb1; have hz1_0 : w.heap.size < w1.heap.size := lt_below hb1 ltg; have hl1_0 := Nat.le_of_lt hz1_0; have hz1_1 : w.heap.size + 1 < w1.heap.size := lt_below hb1 ltg; have hl1_1 := Nat.le_of_lt hz1_1; have hz1_2 : w.heap.size + 1 + 1 < w1.heap.size := lt_below hb1 ltg; have hl1_2 := Nat.le_of_lt hz1_2; have hA1 := bnext (w0 := w) bgo hb1; have hs1 := hA1.size; clear hb1
    have hsm := cell_set_map
    go_wp2
    exact bodyPost_ret (v := A4 J) (by simp only [results, Tryd.results48]; go_simp) rfl ⟨rfl, bgo⟩
  · simp only [List.drop_succ_cons, List.drop_zero, Nat.reduceSub, List.eraseIdx_cons_succ, List.eraseIdx_cons_zero]
    simp only [World.size_alloc] at hg0
    have hz0 : g ≠ w.heap.size := by omega
    have hz1 : g ≠ w.heap.size + 1 := by omega
    have hz2 : g ≠ w.heap.size + 1 + 1 := by omega
    obtain ⟨hc1, hf1⟩ := bcell hb1; have hz1_0 : w.heap.size < w1.heap.size := lt_below hb1 ltg; have hl1_0 := Nat.le_of_lt hz1_0; have hz1_1 : w.heap.size + 1 < w1.heap.size := lt_below hb1 ltg; have hl1_1 := Nat.le_of_lt hz1_1; have hz1_2 : w.heap.size + 1 + 1 < w1.heap.size := lt_below hb1 ltg; have hl1_2 := Nat.le_of_lt hz1_2; have hA1 := bnext (w0 := w) bgo hb1; have hs1 := hA1.size; clear hb1
    have hsm := cell_set_map
    go_wp2
    exact bodyPost_ret (v := A4 J) (by simp only [results, Tryd.results48]; go_simp) rfl ⟨rfl, bgo⟩
set_option maxHeartbeats 2000000 in
theorem join_t (hf : f ≤ 240) (he : e ≤ 15)
  (c23 : ∀ w, Calls Tryd.prog 25 #[.int .i64 ((f : Int) + e)] w fun x w' => x = .returned (A4 Pw) ∧ Below w.heap.size w w')
  (c22b : ∀ w, Calls Tryd.prog 24 #[A4 J, A4 Pw] w fun x w' => x = .returned (.tuple #[A4 K, .int .u64 cr']) ∧ Below w.heap.size w w') :
    Calls Tryd.prog 48 #[LV f e l m, .bool true, .int .u64 E, A4 F] w fun x w' => x = .returned (A4 K) ∧ Below w.heap.size w w' := by
  generalize (E : Int) = Ei at *
  go_enter Tryd.func48, Tryd.ntmps48
  go_wp2
  refine wp_made 7 10 9 #[.int .u64 0, .int .u64 0, .int .u64 0, .int .u64 0] (by kernel_rfl) (by kernel_rfl) (by kernel_rfl) rfl (fun oa hoa a w => ?_) (by kernel_rfl) (by kernel_rfl) rfl rfl (fun _ _ d _ _ h => by cases d <;> exact h) ?_
  · cases hoa; exact ⟨23, by simp [go_sem]⟩
  apply Exists.intro
  refine ⟨fun al hne hcell => ?_, fun w1 hb1 => ?_, fun g w1 hb1 hg0 hg1 hg2 hg3 => ?_⟩
  · simp only [List.take_succ_cons, List.take_zero]
    repeat go_big_quiet_step (fail)
    go_big_quiet_step ((go_at_call 42; exact calls_wd _ al_next (c49 _)))
    repeat go_big_quiet_step (fail)
    go_big_quiet_step ((go_at_call 38; exact calls_wd _ al_next (c45 _)))
    repeat go_big_quiet_step (fail)
    go_big_quiet_step ((go_at_call 24; exact calls_wd _ al_next (c22 _)))
    exact wpQuiet_nil rfl
  · simp only [List.drop_succ_cons, List.drop_zero]
    obtain ⟨hc1, hf1⟩ := bcell hb1; have hz1_0 : w.heap.size < w1.heap.size := lt_below hb1 ltg; have hl1_0 := Nat.le_of_lt hz1_0; have hz1_1 : w.heap.size + 1 < w1.heap.size := lt_below hb1 ltg; have hl1_1 := Nat.le_of_lt hz1_1; have hz1_2 : w.heap.size + 1 + 1 < w1.heap.size := lt_below hb1 ltg; have hl1_2 := Nat.le_of_lt hz1_2; have hA1 := bnext (w0 := w) bgo hb1; have hs1 := hA1.size; clear hb1
    have hsm := cell_set_map
    go_wp2
    refine wp_tail 8 (by kernel_rfl) (by kernel_rfl) (by kernel_rfl) (fun _ _ d _ _ h => by cases d <;> exact h) fun hne hcell => ?_
    simp only [List.take_succ_cons, List.take_zero, List.drop_succ_cons, List.drop_zero]
    repeat go_big_quiet_step (fail)
    go_big_quiet_step ((go_at_call 25; exact calls_wd _ bk_next (c23 _)))
    repeat go_big_quiet_step (fail)
    go_big_quiet_step ((go_at_call 24; exact calls_wd _ bk_next (c22b _)))
    refine wpQuiet_nil fun w2 hb2 => ?_
    obtain ⟨hc2, hf2⟩ := bcell hb2; have hz2_0 : w.heap.size < w2.heap.size := lt_below hb2 ltg; have hl2_0 := Nat.le_of_lt hz2_0; have hz2_1 : w.heap.size + 1 < w2.heap.size := lt_below hb2 ltg; have hl2_1 := Nat.le_of_lt hz2_1; have hz2_2 : w.heap.size + 1 + 1 < w2.heap.size := lt_below hb2 ltg; have hl2_2 := Nat.le_of_lt hz2_2; have hz2_3 : w1.heap.size < w2.heap.size := lt_below hb2 ltg; have hl2_3 := Nat.le_of_lt hz2_3; have hA2 := bnext (w0 := w) bgo hb2; have hs2 := hA2.size; clear hb2
    go_wp2
    exact bodyPost_ret (v := A4 K) (by simp only [results, Tryd.results48]; go_simp) rfl ⟨rfl, bgo⟩
  · simp only [List.drop_succ_cons, List.drop_zero, Nat.reduceSub, List.eraseIdx_cons_succ, List.eraseIdx_cons_zero]
    simp only [World.size_alloc] at hg0
    have hz0 : g ≠ w.heap.size := by omega
    have hz1 : g ≠ w.heap.size + 1 := by omega
    have hz2 : g ≠ w.heap.size + 1 + 1 := by omega
    obtain ⟨hc1, hf1⟩ := bcell hb1; have hz1_0 : w.heap.size < w1.heap.size := lt_below hb1 ltg; have hl1_0 := Nat.le_of_lt hz1_0; have hz1_1 : w.heap.size + 1 < w1.heap.size := lt_below hb1 ltg; have hl1_1 := Nat.le_of_lt hz1_1; have hz1_2 : w.heap.size + 1 + 1 < w1.heap.size := lt_below hb1 ltg; have hl1_2 := Nat.le_of_lt hz1_2; have hA1 := bnext (w0 := w) bgo hb1; have hs1 := hA1.size; clear hb1
    have hsm := cell_set_map
    go_wp2
    refine wp_tail 8 (by kernel_rfl) (by kernel_rfl) (by kernel_rfl) (fun _ _ d _ _ h => by cases d <;> exact h) fun hne hcell => ?_
    simp only [List.take_succ_cons, List.take_zero, List.drop_succ_cons, List.drop_zero]
    repeat go_big_quiet_step (fail)
    go_big_quiet_step ((go_at_call 25; exact calls_wd _ bk_next (c23 _)))
    repeat go_big_quiet_step (fail)
    go_big_quiet_step ((go_at_call 24; exact calls_wd _ bk_next (c22b _)))
    refine wpQuiet_nil fun w2 hb2 => ?_
    obtain ⟨hc2, hf2⟩ := bcell hb2; have hz2_0 : w.heap.size < w2.heap.size := lt_below hb2 ltg; have hl2_0 := Nat.le_of_lt hz2_0; have hz2_1 : w.heap.size + 1 < w2.heap.size := lt_below hb2 ltg; have hl2_1 := Nat.le_of_lt hz2_1; have hz2_2 : w.heap.size + 1 + 1 < w2.heap.size := lt_below hb2 ltg; have hl2_2 := Nat.le_of_lt hz2_2; have hz2_3 : g < w2.heap.size := lt_below hb2 ltg; have hl2_3 := Nat.le_of_lt hz2_3; have hA2 := bnext (w0 := w) bgo hb2; have hs2 := hA2.size; clear hb2
    go_wp2
    exact bodyPost_ret (v := A4 K) (by simp only [results, Tryd.results48]; go_simp) rfl ⟨rfl, bgo⟩
end
theorem join_any (f e : Nat) (l m : Int) (s : Bool) (E F : Nat) (w : World) (h : Fm f e l m) (hE : E ≤ 2 ^ e) (hF : F < 2 ^ (f + 1)) :
    Calls Tryd.prog 48 #[LV f e l m, .bool s, .int .u64 E, A4 F] w fun x w' => x = .returned (A4 (E * 2 ^ f + F + if s then 2 ^ (f + e) else 0)) ∧ Below w.heap.size w w' := by
  have h2 := h.e2
  have h15 := h.e15
  have hf := h.f240
  have hfe := h.fe
  have hp := pow_e h2 h15
  have hpc : ((2 : Int) ^ e) = ((2 ^ e : Nat) : Int) := by simp
  rw [hpc] at hp
  have hE1 : E < 18446744073709551616 := by omega
  have a1 : E * 2 ^ f ≤ 2 ^ 255 := Nat.le_trans (Nat.mul_le_mul_right _ hE) (by rw [← Nat.pow_add]; exact Nat.pow_le_pow_right (by decide) (by omega))
  have a2 : 2 ^ (f + 1) ≤ 2 ^ 241 := Nat.pow_le_pow_right (by decide) (by omega)
  have a3 : 2 ^ (f + e) ≤ 2 ^ 255 := Nat.pow_le_pow_right (by decide) (by omega)
  have e255 : (2 : Nat) ^ 255 = 57896044618658097711785492504343953926634992332820282019728792003956564819968 := by decide
  have e241 : (2 : Nat) ^ 241 = 3533694129556768659166595001485837031654967793751237916243212402585239552 := by decide
  have e256 : (2 : Nat) ^ 256 = 115792089237316195423570985008687907853269984665640564039457584007913129639936 := by decide
  have c49 := fun w => of4 E w hE1
  have c45 := fun w => shl4 E f w (by omega) (by omega)
  have c22 := fun w => add4 (E * 2 ^ f) F w (by omega) (by omega)
  cases s with
  | false => exact join_f f e l m w E F _ _ _ c49 c45 c22
  | true =>
    have c23 := fun w => power_any (f + e) w (by omega)
    rw [Int.natCast_add] at c23
    exact join_t f e l m w E F _ _ _ _ _ _ c49 c45 c22 hf h15 c23 (fun w => add4 (E * 2 ^ f + F) (2 ^ (f + e)) w (by omega) (by omega))
end
/-- a natural number, of at most K words -/
def NV (K V : Nat) (v : Value) (w : World) : Prop := ∃ g k cap z, v = .slice (some ⟨g, 0, none⟩) k cap ∧ k ≤ K ∧ Num w (some ⟨g, 0, none⟩) k cap z ∧ val z k = (V : Int)
theorem NV.next {K V : Nat} {v : Value} {w w' : World} (h : NV K V v w) (hb : Below w.heap.size w w') : NV K V v w' := by
  obtain ⟨g, k, cap, z, h1, h2, h3, h4⟩ := h
  exact ⟨g, k, cap, z, h1, h2, h3.next hb, h4⟩
theorem NV.more {K K' V : Nat} {v : Value} {w : World} (h : NV K V v w) (hk : K ≤ K') : NV K' V v w := by
  obtain ⟨g, k, cap, z, h1, h2, h3, h4⟩ := h
  exact ⟨g, k, cap, z, h1, by omega, h3, h4⟩
/-- a natural number without noughts at its end -/
def NT (K V : Nat) (v : Value) (w : World) : Prop := ∃ g k cap z, v = .slice (some ⟨g, 0, none⟩) k cap ∧ k ≤ K ∧ Num w (some ⟨g, 0, none⟩) k cap z ∧ val z k = (V : Int) ∧ sizeL z k = k
theorem NT.next {K V : Nat} {v : Value} {w w' : World} (h : NT K V v w) (hb : Below w.heap.size w w') : NT K V v w' := by
  obtain ⟨g, k, cap, z, h1, h2, h3, h4, h5⟩ := h
  exact ⟨g, k, cap, z, h1, h2, h3.next hb, h4, h5⟩
theorem NT.zero {K V : Nat} {v : Value} {w : World} (h : NT K V v w) : ∃ g k cap, v = .slice (some ⟨g, 0, none⟩) k cap ∧ k ≤ K ∧ (k = 0 ↔ V = 0) := by
  obtain ⟨g, k, cap, z, h1, h2, h3, h4, h5⟩ := h
  refine ⟨g, k, cap, h1, h2, ?_⟩
  constructor
  · intro hk; subst hk
    have : val z 0 = 0 := rfl
    omega
  · intro hV
    rcases Nat.eq_zero_or_pos k with hk | hk
    · exact hk
    · exfalso
      have ht := sizeL_top (x := z) k (by omega)
      rw [h5] at ht
      obtain ⟨j, rfl⟩ : ∃ j, k = j + 1 := ⟨k - 1, by omega⟩
      have hs : val z (j + 1) = val z j + z j * 18446744073709551616 ^ j := rfl
      have hb := val_bd h3.2.2.1 j
      have hp := pw_pos j
      have hj := h3.2.2.1 j
      have hz : z j ≠ 0 := ht
      have : 1 * 18446744073709551616 ^ j ≤ z j * 18446744073709551616 ^ j := Int.mul_le_mul_of_nonneg_right (by omega) (Int.le_of_lt hp)
      omega
section
attribute [local go_sem ↓] Go.wp_at_zero Go.wp_at_succ

theorem box_nv {w0 w : World} {B : Nat} {t : TypeId} (hB : B < 2 ^ 256) (hb : Below (w0.alloc (.cells #[.int .u64 (W4 B 0), .int .u64 (W4 B 1), .int .u64 (W4 B 2), .int .u64 (W4 B 3)] t)).heap.size (w0.alloc (.cells #[.int .u64 (W4 B 0), .int .u64 (W4 B 1), .int .u64 (W4 B 2), .int .u64 (W4 B 3)] t)) w) :
    NV 4 B (.slice (some ⟨w0.heap.size, 0, none⟩) 4 4) w :=
  ⟨_, 4, 4, _, rfl, Nat.le_refl _, box_num (W4_words B) (A4_get B) hb, by
    rw [val_congr (x := lowW (W4 B) 4) (y := W4 B) 4 (fun i hi => lowW_lt hi), W4_val4 hB]⟩
end
end Go.Proofs.YtiojbgdfmabjdaaDoor
