/-
  Texts that the proof leans on.
-/
import Derived.Test.YtgknbdehlmlipaaDoorJ23
import Derived.Test.YtgknbdehlmlipaaDoorJ32
import Derived.Test.YtgknbdehlmlipaaDoorJ35
import Derived.Test.YtgknbdehlmlipaaDoorJ22
import Derived.Test.YtgknbdehlmlipaaDoorJ18
import Derived.Test.YtgknbdehlmlipaaDoorJ37
import Derived.Test.YtgknbdehlmlipaaDoorJ3
set_option linter.unusedVariables false
set_option linter.unusedSectionVars false
set_option linter.unusedSimpArgs false
set_option maxRecDepth 20000
namespace Go.Proofs.YtgknbdehlmlipaaDoor
open Go.RowKit
/-- on which side of 0 a datum lies -/
def oS (d : Dat) : Int := if d.c = 1 ∧ d.k = 0 then 0 else if d.s then -1 else 1
def oN (d : Dat) (x : Nat) : Nat := d.k * x ^ d.x.toNat
def oD (d : Dat) (x : Nat) : Nat := 1 * x ^ (-d.x).toNat
/-- two data by value -/
def oV (a : Dat) (x : Nat) (b : Dat) (y : Nat) : Int :=
  if oS a ≠ oS b ∨ oS a = 0 then sgn (oS a) (oS b)
  else if a.c = 2 ∨ b.c = 2 then oS a * sgn a.c b.c
  else oS a * sgn ((oN a x * oD b y : Nat) : Int) ((oN b y * oD a x : Nat) : Int)
theorem oV_a {a b : Dat} {x y : Nat} (h : oS a ≠ oS b ∨ oS a = 0) : oV a x b y = sgn (oS a) (oS b) := if_pos h
theorem oV_b {a b : Dat} {x y : Nat} (h : oS a = oS b) (h0 : oS a ≠ 0) (h2 : a.c = 2 ∨ b.c = 2) : oV a x b y = oS a * sgn a.c b.c := by
  unfold oV
  rw [if_neg (show ¬ (oS a ≠ oS b ∨ oS a = 0) by omega), if_pos h2]
theorem oV_c {a b : Dat} {x y : Nat} (h : oS a = oS b) (h0 : oS a ≠ 0) (h2 : ¬ (a.c = 2 ∨ b.c = 2)) : oV a x b y = oS a * sgn ((oN a x * oD b y : Nat) : Int) ((oN b y * oD a x : Nat) : Int) := by
  unfold oV
  rw [if_neg (show ¬ (oS a ≠ oS b ∨ oS a = 0) by omega), if_neg h2]
theorem oV_swap (a : Dat) (x : Nat) (b : Dat) (y : Nat) : oV b y a x = - oV a x b y := by
  by_cases h : oS a = oS b
  · by_cases h0 : oS b = 0
    · rw [oV_a (Or.inr h0), oV_a (Or.inr (h.trans h0)), h, h0, sgn_self]
      rfl
    · have h0' : oS a ≠ 0 := fun q => h0 (h.symm.trans q)
      by_cases h2 : a.c = 2 ∨ b.c = 2
      · rw [oV_b h h0' h2, oV_b h.symm h0 h2.symm, h, sgn_neg a.c b.c, Int.mul_neg]
      · rw [oV_c h h0' h2, oV_c h.symm h0 (fun q => h2 q.symm), h, sgn_neg ((oN a x * oD b y : Nat) : Int), Int.mul_neg]
  · rw [oV_a (Or.inl h), oV_a (Or.inl (fun q => h q.symm)), sgn_neg (oS a)]
/-- what a pattern means, in any format -/
def mD (n : Int) (B : Nat) : Dat := if binN n then unD n B else vUD n B
def mX (n : Int) : Nat := if binN n then 2 else 10
def mE (n : Int) (B : Nat) : Int := if binN n then unE n B else vUE n B
/-- Mixed, Compare -/
def oMc (f : Int) (A : Nat) (g : Int) (B : Nat) : Int := if mE f A ≠ 0 ∨ mE g B ≠ 0 then 0 else if (mD f A).c = 3 ∨ (mD g B).c = 3 then 0 else oV (mD f A) (mX f) (mD g B) (mX g)
def oMo (f : Int) (A : Nat) (g : Int) (B : Nat) : Bool := if mE f A ≠ 0 ∨ mE g B ≠ 0 then false else if (mD f A).c = 3 ∨ (mD g B).c = 3 then false else true
def oME (f : Int) (A : Nat) (g : Int) (B : Nat) : Int := if mE f A ≠ 0 ∨ mE g B ≠ 0 then 1 else 0
/-- a datum's place: its sign, NaNs at the ends -/
def oR (d : Dat) : Int := if d.s then -(if d.c = 3 then (if d.g then 2 else 3) else 1) else (if d.c = 3 then (if d.g then 2 else 3) else 1)
def oG (d : Dat) : Int := if d.s then -1 else 1
/-- the order of data -/
def oT (a b : Dat) (x : Nat) : Int :=
  if oR a ≠ oR b then sgn (oR a) (oR b)
  else if a.c = 3 then oG a * sgn (a.k : Int) (b.k : Int)
  else if oV a x b x = 0 then oG a * sgn a.x b.x else oV a x b x
def oTc (n : Int) (A B : Nat) : Int := if mE n A ≠ 0 ∨ mE n B ≠ 0 then 0 else oT (mD n A) (mD n B) (mX n)
def oTE (n : Int) (A B : Nat) : Int := if mE n A ≠ 0 ∨ mE n B ≠ 0 then 1 else 0
/-- data of one format, whose exponents are at least l -/
def oK (l : Int) (d : Dat) : Prop := (d.c = 1 ∧ d.g = false ∧ l ≤ d.x) ∨ (d.c = 2 ∧ d.g = false ∧ d.x = 0 ∧ d.k = 0) ∨ (d.c = 3 ∧ d.x = 0)
theorem oG_sq (d : Dat) : (d.s = true ∧ oG d = -1) ∨ (d.s = false ∧ oG d = 1) := by
  unfold oG
  cases d.s
  · exact Or.inr ⟨rfl, rfl⟩
  · exact Or.inl ⟨rfl, rfl⟩
theorem oT_v {a b : Dat} {x : Nat} (hR : oR a = oR b) (h : a.c ≠ 3) : oT a b x = if oV a x b x = 0 then oG a * sgn a.x b.x else oV a x b x := by
  unfold oT
  rw [if_neg (show ¬ (oR a ≠ oR b) from fun q => q hR), if_neg h]
/-- where two numbers compare as less or greater, so they stand in the order of data -/
theorem oV_oT {l : Int} {x : Nat} (hx : 0 < x) {a b : Dat} (ha : oK l a) (hb : oK l b) (h3 : a.c ≠ 3) (h3' : b.c ≠ 3) (h : oV a x b x ≠ 0) : oT a b x = oV a x b x := by
  by_cases hR : oR a = oR b
  · rw [oT_v hR h3, if_neg h]
  · rw [show oT a b x = sgn (oR a) (oR b) from if_pos hR]
    have rA : oR a = oG a := by unfold oR oG; rw [if_neg h3]
    have rB : oR b = oG b := by unfold oR oG; rw [if_neg h3']
    have sA : oS a = 0 ∨ oS a = oG a := by unfold oS; split; exact Or.inl rfl; exact Or.inr rfl
    have sB : oS b = 0 ∨ oS b = oG b := by unfold oS; split; exact Or.inl rfl; exact Or.inr rfl
    have gA := oG_sq a
    have gB := oG_sq b
    rw [rA, rB] at hR ⊢
    have hne : oS a ≠ oS b ∨ oS a = 0 := by omega
    rw [oV_a hne] at h ⊢
    unfold sgn at h ⊢
    split at h <;> (try split at h) <;> split <;> (try split) <;> omega
end Go.Proofs.YtgknbdehlmlipaaDoor

namespace Go.Proofs.YtgknbdehlmlipaaDoor
open Go.RowKit
attribute [local irreducible] W4
attribute [local go_sem ↓] ld18_eq
attribute [local go_sem] ld18_got
section
variable (n : Int) (B : Nat) (w : World) (hT : Tab w)
include hT
set_option maxHeartbeats 2000000 in
theorem dfor_n (c1 : ∀ W, Tab W → Calls Tryd.prog 42 #[.int .i64 n, A4 B] W fun r w' => r = .returned (.bool false) ∧ Below W.heap.size W w') :
    Calls Tryd.prog 35 #[.int .i64 n, A4 B] w fun r w' => r = .returned (.tuple #[ZL, .int .i64 1]) ∧ Below w.heap.size w w' := by
  have hsm := cell_set_map
  go_enter Tryd.func35, Tryd.ntmps35
  go_wp2_with (go_at_call 42; refine (c1 _ ((hT.alloc _).alloc _)).mono ?_; rintro r w1 ⟨rfl, hb1⟩; obtain ⟨hc1, hf1⟩ := bcell hb1; have hz1_0 : w.heap.size < w1.heap.size := lt_below hb1 ltg; have hl1_0 := Nat.le_of_lt hz1_0; have hz1_1 : w.heap.size + 1 < w1.heap.size := lt_below hb1 ltg; have hl1_1 := Nat.le_of_lt hz1_1; have hA1 := bnext (w0 := w) bgo hb1; have hs1 := hA1.size; clear hb1)
  exact bodyPost_ret (by simp only [results, Tryd.results35]; go_simp) rfl ⟨rfl, bgo⟩
variable (c1 : ∀ W, Tab W → Calls Tryd.prog 42 #[.int .i64 n, A4 B] W fun r w' => r = .returned (.bool true) ∧ Below W.heap.size W w')
include c1
set_option maxHeartbeats 2000000 in
theorem dfor_b (c2 : ∀ W, Tab W → Calls Tryd.prog 52 #[.int .i64 n] W fun r w' => r = .returned (.tuple #[ZL, .int .i64 1]) ∧ Below W.heap.size W w') :
    Calls Tryd.prog 35 #[.int .i64 n, A4 B] w fun r w' => r = .returned (.tuple #[ZL, .int .i64 1]) ∧ Below w.heap.size w w' := by
  have hsm := cell_set_map
  go_enter Tryd.func35, Tryd.ntmps35
  go_wp2_with (first
    | (go_at_call 42; refine (c1 _ ((hT.alloc _).alloc _)).mono ?_; rintro r w1 ⟨rfl, hb1⟩; have hT1 := ((hT.alloc _).alloc _).go hb1; obtain ⟨hc1, hf1⟩ := bcell hb1; have hz1_0 : w.heap.size < w1.heap.size := lt_below hb1 ltg; have hl1_0 := Nat.le_of_lt hz1_0; have hz1_1 : w.heap.size + 1 < w1.heap.size := lt_below hb1 ltg; have hl1_1 := Nat.le_of_lt hz1_1; have hA1 := bnext (w0 := w) bgo hb1; have hs1 := hA1.size; clear hb1)
    | (go_at_call 52; refine (c2 _ hT1).mono ?_; rintro r w2 ⟨rfl, hb2⟩; obtain ⟨hc2, hf2⟩ := bcell hb2; have hz2_0 : w.heap.size < w2.heap.size := lt_below hb2 ltg; have hl2_0 := Nat.le_of_lt hz2_0; have hz2_1 : w.heap.size + 1 < w2.heap.size := lt_below hb2 ltg; have hl2_1 := Nat.le_of_lt hz2_1; have hA2 := bnext (w0 := w) bgo hb2; have hs2 := hA2.size; clear hb2))
  exact bodyPost_ret (by simp only [results, Tryd.results35]; go_simp) rfl ⟨rfl, bgo⟩
set_option maxHeartbeats 2000000 in
theorem dfor_y (dn : Bool) (g t bl : Int) (wo co pa : Nat) (le mo : Int)
    (c2 : ∀ W, Tab W → Calls Tryd.prog 52 #[.int .i64 n] W fun r w' => r = .returned (.tuple #[LD dn g t bl wo co pa le mo, .int .i64 0]) ∧ Below W.heap.size W w') :
    Calls Tryd.prog 35 #[.int .i64 n, A4 B] w fun r w' => r = .returned (.tuple #[LD dn g t bl wo co pa le mo, .int .i64 0]) ∧ Below w.heap.size w w' := by
  have hsm := cell_set_map
  go_enter Tryd.func35, Tryd.ntmps35
  go_wp2_with (first
    | (go_at_call 42; refine (c1 _ ((hT.alloc _).alloc _)).mono ?_; rintro r w1 ⟨rfl, hb1⟩; have hT1 := ((hT.alloc _).alloc _).go hb1; obtain ⟨hc1, hf1⟩ := bcell hb1; have hz1_0 : w.heap.size < w1.heap.size := lt_below hb1 ltg; have hl1_0 := Nat.le_of_lt hz1_0; have hz1_1 : w.heap.size + 1 < w1.heap.size := lt_below hb1 ltg; have hl1_1 := Nat.le_of_lt hz1_1; have hA1 := bnext (w0 := w) bgo hb1; have hs1 := hA1.size; clear hb1)
    | (go_at_call 52; refine (c2 _ hT1).mono ?_; rintro r w2 ⟨rfl, hb2⟩; obtain ⟨hc2, hf2⟩ := bcell hb2; have hz2_0 : w.heap.size < w2.heap.size := lt_below hb2 ltg; have hl2_0 := Nat.le_of_lt hz2_0; have hz2_1 : w.heap.size + 1 < w2.heap.size := lt_below hb2 ltg; have hl2_1 := Nat.le_of_lt hz2_1; have hA2 := bnext (w0 := w) bgo hb2; have hs2 := hA2.size; clear hb2))
  exact bodyPost_ret (v := .tuple #[LD dn g t bl wo co pa le mo, .int .i64 0]) (by simp only [results, Tryd.results35]; go_simp) rfl ⟨rfl, bgo⟩
end
end Go.Proofs.YtgknbdehlmlipaaDoor
