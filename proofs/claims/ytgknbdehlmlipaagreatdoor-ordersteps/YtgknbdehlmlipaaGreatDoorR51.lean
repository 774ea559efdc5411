/-
  Texts that the proof leans on.
-/
import Derived.Test.YtgknbdehlmlipaaGreatDoorR48
import Derived.Test.YtgknbdehlmlipaaGreatDoorR35
import Derived.Test.YtgknbdehlmlipaaGreatDoorR27
import Derived.Test.YtgknbdehlmlipaaGreatDoorR28
import Derived.Test.YtgknbdehlmlipaaGreatDoorR36
import Derived.Test.YtgknbdehlmlipaaGreatDoorR34
import Derived.Test.YtgknbdehlmlipaaGreatDoorR26
import Derived.Test.YtgknbdehlmlipaaGreatDoorR31
import Derived.Deep.RegionWith
import Derived.Test.YtgknbdehlmlipaaGreatDoorR21
import Derived.Test.YtgknbdehlmlipaaGreatDoorR22
import Derived.Test.YtgknbdehlmlipaaGreatDoorR20
import Derived.Test.YtgknbdehlmlipaaGreatDoorR44
import Derived.Test.YtgknbdehlmlipaaGreatDoorR6
import Derived.Test.YtgknbdehlmlipaaGreatDoorR49
import Derived.Test.YtgknbdehlmlipaaGreatDoorR46
import Derived.Test.YtgknbdehlmlipaaGreatDoorR47
import Derived.Test.YtgknbdehlmlipaaGreatDoorR25
import Derived.Test.YtgknbdehlmlipaaGreatDoorR50
set_option linter.unusedVariables false
set_option linter.unusedSectionVars false
set_option linter.unusedSimpArgs false
set_option maxRecDepth 20000
namespace Go.Proofs.YtgknbdehlmlipaaGreatDoor
open Go.RowKit
section
attribute [local irreducible] W4 NT NV
section
variable {a : Act} {w : World} {K : Act → World → Prop} {Q : Exit → Act → World → Prop} {d p : Nat} {ty : TypeId} {pos : String} {after : Array Edge} {gd : Option (Nat × Bool)}
end
def TW2 (X Y : Nat) (v : Value) (w : World) : Prop := ∃ a b, v = .tuple #[a, b] ∧ NT 7000 X a w ∧ NT 7000 Y b w
theorem TW2.next {X Y : Nat} {v : Value} {w w' : World} (h : TW2 X Y v w) (hb : Below w.heap.size w w') : TW2 X Y v w' := by
  obtain ⟨a, b, e, h1, h2⟩ := h
  exact ⟨a, b, e, h1.next hb, h2.next hb⟩
section
variable (c x c' x' : Int) (s g s' g' : Bool) (k k' : Nat) (P P' S T : Int) (w : World)
  (c1 : ∀ W, Calls Tryz.prog 76 #[DV c s g x k] W fun r w' => r = .returned (.int .i64 S) ∧ Below W.heap.size W w')
  (c2 : ∀ W, Calls Tryz.prog 76 #[DV c' s' g' x' k'] W fun r w' => r = .returned (.int .i64 T) ∧ Below W.heap.size W w')
include c1 c2
variable (h : (S != T) = false) (h' : (S == 0) = false)
include h h'
end
end
section
/-- what order's calls answer, in a class of worlds -/
structure OrdC (TT : World → Prop) : Prop where
  next : ∀ w w', TT w → Below w.heap.size w w' → TT w'
  cm : ∀ n Ar Br W, Ar < 2 ^ 256 → Br < 2 ^ 256 → TT W → Calls Tryz.prog 11 #[.int .i64 n, A4 Ar, A4 Br] W fun r w' => r = .returned (.tuple #[.int .i64 (oMc n Ar n Br), .bool (oMo n Ar n Br), .int .i64 (oME n Ar n Br)]) ∧ Below W.heap.size W w'
theorem awk20_T : oMc 3 1065353216 3 1073741824 = -1 ∧ oMo 3 1065353216 3 1073741824 = true ∧ oME 3 1065353216 3 1073741824 = 0 := ⟨by kernel_rfl, by kernel_rfl, by kernel_rfl⟩
theorem awk20_W : (W4 1065353216 0 = 1065353216 ∧ W4 1065353216 1 = 0 ∧ W4 1065353216 2 = 0 ∧ W4 1065353216 3 = 0) ∧ (W4 1073741824 0 = 1073741824 ∧ W4 1073741824 1 = 0 ∧ W4 1073741824 2 = 0 ∧ W4 1073741824 3 = 0) := ⟨⟨by decide, by decide, by decide, by decide⟩, ⟨by decide, by decide, by decide, by decide⟩⟩
attribute [local irreducible] W4
set_option maxHeartbeats 1000000 in
theorem awake20 {TT : World → Prop} (h : OrdC TT) (w : World) (hT : TT w) : Calls Tryz.prog 8 #[] w fun r w' => r = .returned (.bool true) ∧ Below w.heap.size w w' := by
  have c9 := fun W hW => h.cm 3 1065353216 1073741824 W (by decide) (by decide) hW
  obtain ⟨e1, e2, e4⟩ := awk20_T
  obtain ⟨⟨w0, w1, w2, w3⟩, u0, u1, u2, u3⟩ := awk20_W
  rw [e1, e2, e4] at c9
  unfold A4 at c9
  rw [w0, w1, w2, w3, u0, u1, u2, u3] at c9
  clear w0 w1 w2 w3 u0 u1 u2 u3 e1 e2 e4
  have hsm := cell_set_map
  go_enter Tryz.func8, Tryz.ntmps8
  go_wp2_with (go_at_call 11; refine (c9 _ (h.next _ _ hT bgo)).mono ?_; rintro r w1 ⟨rfl, hb1⟩; obtain ⟨hc1, hf1⟩ := bcell hb1; have hA1 := bnext (w0 := w) bgo hb1; have hs1 := hA1.size; clear hb1)
  go_ret
  exact ⟨by first | rfl | simp, bgo⟩
section
variable (TT : World → Prop) (hTT : ∀ w w', TT w → Below w.heap.size w w' → TT w') (w : World) (hT : TT w)
  (c8 : ∀ W, TT W → Calls Tryz.prog 8 #[] W fun r w' => r = .returned (.bool true) ∧ Below W.heap.size W w')
variable (f g : Int) (Ar Br Cr : Nat)
include hTT hT c8
variable (n : Int)
variable (X E : Int)
  (c9 : ∀ W, TT W → Calls Tryz.prog 13 #[.int .i64 n, A4 Ar, A4 Br] W fun r w' => r = .returned (.tuple #[.int .i64 X, .int .i64 E]) ∧ Below W.heap.size W w')
  (c10 : ∀ W, Calls Tryz.prog 14 #[.int .i64 n, A4 Ar, A4 Br] W fun r w' => r = .returned (.tuple #[.int .i64 X, .int .i64 E]) ∧ Below W.heap.size W w')
include c9 c10
end
/-- a format's least exponent -/
def oL (n : Int) : Int := if binN n then leastN n else (fD n).l
theorem mD_K {n : Int} {B : Nat} (h : mE n B = 0) : oK (oL n) (mD n B) := by
  unfold mE at h
  unfold oL mD
  by_cases hb : binN n
  · rw [if_pos hb] at h
    rw [if_pos hb, if_pos hb]
    have hg : goodN n B := by
      refine Classical.byContradiction fun q => ?_
      rw [show unE n B = 1 from if_neg q] at h
      omega
    rcases und_is hg with ⟨h1, h2, h3, h4, h5, h6⟩ | ⟨h1, h2, h3, h4⟩ | ⟨h1, h2, h3, h4⟩
    · exact Or.inl ⟨h1, h2, h4⟩
    · exact Or.inr (Or.inl ⟨h1, h2, h3, h4⟩)
    · exact Or.inr (Or.inr ⟨h1, h2⟩)
  · rw [if_neg hb] at h
    rw [if_neg hb, if_neg hb]
    have hg : goodD n B := by
      refine Classical.byContradiction fun q => ?_
      rw [show vUE n B = 1 from if_neg q] at h
      omega
    rw [show vUD n B = vM (fD n) B from if_pos hg]
    rcases vM_is (fD_ok n) B with ⟨h1, h2, h3, h4, h5⟩ | ⟨h1, h2, h3, h4⟩ | ⟨h1, h2, h3⟩
    · exact Or.inl ⟨h1, h2, h4⟩
    · exact Or.inr (Or.inl ⟨h1, h2, h4, h3⟩)
    · exact Or.inr (Or.inr ⟨h1, h2⟩)
section
variable {TT : World → Prop} (h : OrdC TT) (w : World) (hT : TT w)
include h hT
end
end
section
attribute [local irreducible] W4 Nt Nz NT
abbrev FnV (f : Nat) : Value := .func (.func f) #[] #[]
section
variable (c x b : Int) (s g : Bool) (k : Nat) (c' x' b' : Int) (s' g' : Bool) (k' : Nat) (R R' : Int) (w : World)
set_option maxHeartbeats 4000000 in
theorem sg_s
    (c1 : ∀ W, Calls Tryz.prog 33 #[OV c s g x k b, OV c' s' g' x' k' b'] W fun r w' => r = .returned (.int .i64 R) ∧ Below W.heap.size W w')
    (c2 : ∀ W, Calls Tryz.prog 33 #[OV c' s' g' x' k' b', OV c s g x k b] W fun r w' => r = .returned (.int .i64 R') ∧ Below W.heap.size W w') :
    Calls Tryz.prog 32 #[OV c s g x k b, OV c' s' g' x' k' b', FnV 33] w fun r w' => r = .returned (.int .i64 (sgV s s' R R')) ∧ Below w.heap.size w w' := by
  have hsm := cell_set_map
  cases s <;> cases s'
  · go_enter Tryz.func32, Tryz.ntmps32
    go_wp2_with (go_at_call 33; refine (c1 _).mono ?_; rintro r w1 ⟨rfl, hb1⟩; obtain ⟨hc1, hf1⟩ := bcell hb1; have hz1_0 : w.heap.size < w1.heap.size := lt_below hb1 ltg; have hl1_0 := Nat.le_of_lt hz1_0; have hz1_1 : w.heap.size + 1 < w1.heap.size := lt_below hb1 ltg; have hl1_1 := Nat.le_of_lt hz1_1; have hA1 := bnext (w0 := w) bgo hb1; have hs1 := hA1.size; clear hb1)
    go_ret
    exact ⟨by first | rfl | simp, bgo⟩
  · go_enter Tryz.func32, Tryz.ntmps32
    go_wp2
    go_ret
    exact ⟨by first | rfl | simp, bgo⟩
  · go_enter Tryz.func32, Tryz.ntmps32
    go_wp2
    go_ret
    exact ⟨by first | rfl | simp, bgo⟩
  · go_enter Tryz.func32, Tryz.ntmps32
    go_wp2_with (go_at_call 33; refine (c2 _).mono ?_; rintro r w2 ⟨rfl, hb2⟩; obtain ⟨hc2, hf2⟩ := bcell hb2; have hz2_0 : w.heap.size < w2.heap.size := lt_below hb2 ltg; have hl2_0 := Nat.le_of_lt hz2_0; have hz2_1 : w.heap.size + 1 < w2.heap.size := lt_below hb2 ltg; have hl2_1 := Nat.le_of_lt hz2_1; have hA2 := bnext (w0 := w) bgo hb2; have hs2 := hA2.size; clear hb2)
    go_ret
    exact ⟨by first | rfl | simp, bgo⟩
end
section
variable (c x b : Int) (s g : Bool) (k : Nat) (hk : k < 2 ^ 256) (c' x' b' : Int) (s' g' : Bool) (k' : Nat) (hk' : k' < 2 ^ 256) (w : World)
include hk hk'
end
end
section
attribute [local irreducible] W4 Nt Nz NT
section
variable (f n : Int) (A B : Nat) (c x b : Int) (s g : Bool) (k : Nat) (c' x' b' : Int) (s' g' : Bool) (k' : Nat) (E : Int) (w : World) (hT : Tab w)
  (cB : ∀ W, Tab W → Calls Tryz.prog 30 #[.int .i64 f, A4 A, .int .i64 n, A4 B] W fun r w' => r = .returned (.tuple #[OV c s g x k b, OV c' s' g' x' k' b', .int .i64 E]) ∧ Below W.heap.size W w')
include hT cB
set_option maxHeartbeats 4000000 in
theorem mx_e (h : (E != 0) = true ∨ ((E != 0) = false ∧ E = 0 ∧ ((c == 3) = true ∨ ((c == 3) = false ∧ (c' == 3) = true)))) :
    Calls Tryz.prog 9 #[.int .i64 f, A4 A, .int .i64 n, A4 B] w fun r w' => r = .returned (.tuple #[.int .i64 0, .bool false, .int .i64 E]) ∧ Below w.heap.size w w' := by
  have hsm := cell_set_map
  rcases h with h | ⟨h, rfl, h3 | ⟨h3, h4⟩⟩
  all_goals
    go_enter Tryz.func9, Tryz.ntmps9
    go_wp2_with (go_at_call 30; refine (cB _ (hT.go bgo)).mono ?_; rintro r w1 ⟨rfl, hb1⟩; obtain ⟨hc1, hf1⟩ := bcell hb1; have hz1_0 : w.heap.size < w1.heap.size := lt_below hb1 ltg; have hl1_0 := Nat.le_of_lt hz1_0; have hz1_1 : w.heap.size + 1 < w1.heap.size := lt_below hb1 ltg; have hl1_1 := Nat.le_of_lt hz1_1; have hA1 := bnext (w0 := w) bgo hb1; have hs1 := hA1.size; clear hb1)
    exact bodyPost_ret (by simp only [results, Tryz.results9]; go_simp) rfl ⟨rfl, bgo⟩
variable (hE : E = 0) (h3 : (c == 3) = false) (h4 : (c' == 3) = false)
include hE h3 h4
set_option maxHeartbeats 4000000 in
theorem mx_0
    (c1 : ∀ W, Calls Tryz.prog 31 #[OV c s g x k b] W fun r w' => r = .returned (.bool true) ∧ Below W.heap.size W w')
    (c2 : ∀ W, Calls Tryz.prog 31 #[OV c' s' g' x' k' b'] W fun r w' => r = .returned (.bool true) ∧ Below W.heap.size W w') :
    Calls Tryz.prog 9 #[.int .i64 f, A4 A, .int .i64 n, A4 B] w fun r w' => r = .returned (.tuple #[.int .i64 0, .bool true, .int .i64 0]) ∧ Below w.heap.size w w' := by
  subst hE
  have hsm := cell_set_map
  go_enter Tryz.func9, Tryz.ntmps9
  go_wp2_with (first
    | (go_at_call 30; refine (cB _ (hT.go bgo)).mono ?_; rintro r w1 ⟨rfl, hb1⟩; obtain ⟨hc1, hf1⟩ := bcell hb1; have hz1_0 : w.heap.size < w1.heap.size := lt_below hb1 ltg; have hl1_0 := Nat.le_of_lt hz1_0; have hz1_1 : w.heap.size + 1 < w1.heap.size := lt_below hb1 ltg; have hl1_1 := Nat.le_of_lt hz1_1; have hA1 := bnext (w0 := w) bgo hb1; have hs1 := hA1.size; clear hb1)
    | (have := hA2; go_at_call 31; refine (c2 _).mono ?_; rintro r w3 ⟨rfl, hb3⟩; obtain ⟨hc3, hf3⟩ := bcell hb3; have hz3_0 : w.heap.size < w3.heap.size := lt_below hb3 ltg; have hl3_0 := Nat.le_of_lt hz3_0; have hz3_1 : w.heap.size + 1 < w3.heap.size := lt_below hb3 ltg; have hl3_1 := Nat.le_of_lt hz3_1; have hz3_2 : w1.heap.size < w3.heap.size := lt_below hb3 ltg; have hl3_2 := Nat.le_of_lt hz3_2; have hz3_3 : w1.heap.size + 1 < w3.heap.size := lt_below hb3 ltg; have hl3_3 := Nat.le_of_lt hz3_3; have hA3 := bnext (w0 := w) bgo hb3; have hs3 := hA3.size; clear hb3)
    | (go_at_call 31; refine (c1 _).mono ?_; rintro r w2 ⟨rfl, hb2⟩; obtain ⟨hc2, hf2⟩ := bcell hb2; have hz2_0 : w.heap.size < w2.heap.size := lt_below hb2 ltg; have hl2_0 := Nat.le_of_lt hz2_0; have hz2_1 : w.heap.size + 1 < w2.heap.size := lt_below hb2 ltg; have hl2_1 := Nat.le_of_lt hz2_1; have hz2_2 : w1.heap.size < w2.heap.size := lt_below hb2 ltg; have hl2_2 := Nat.le_of_lt hz2_2; have hz2_3 : w1.heap.size + 1 < w2.heap.size := lt_below hb2 ltg; have hl2_3 := Nat.le_of_lt hz2_3; have hA2 := bnext (w0 := w) bgo hb2; have hs2 := hA2.size; clear hb2))
  exact bodyPost_ret (by simp only [results, Tryz.results9]; go_simp) rfl ⟨rfl, bgo⟩
set_option maxHeartbeats 4000000 in
theorem mx_v (n1 n2 : Bool) (hn : n1 = false ∨ (n1 = true ∧ n2 = false)) (R : Int)
    (c1 : ∀ W, Calls Tryz.prog 31 #[OV c s g x k b] W fun r w' => r = .returned (.bool n1) ∧ Below W.heap.size W w')
    (c2 : ∀ W, Calls Tryz.prog 31 #[OV c' s' g' x' k' b'] W fun r w' => r = .returned (.bool n2) ∧ Below W.heap.size W w')
    (c3 : ∀ W, Calls Tryz.prog 32 #[OV c s g x k b, OV c' s' g' x' k' b', FnV 33] W fun r w' => r = .returned (.int .i64 R) ∧ Below W.heap.size W w') :
    Calls Tryz.prog 9 #[.int .i64 f, A4 A, .int .i64 n, A4 B] w fun r w' => r = .returned (.tuple #[.int .i64 R, .bool true, .int .i64 0]) ∧ Below w.heap.size w w' := by
  subst hE
  have hsm := cell_set_map
  rcases hn with rfl | ⟨rfl, rfl⟩
  all_goals
    go_enter Tryz.func9, Tryz.ntmps9
    go_wp2_with (first
      | (go_at_call 30; refine (cB _ (hT.go bgo)).mono ?_; rintro r w1 ⟨rfl, hb1⟩; obtain ⟨hc1, hf1⟩ := bcell hb1; have hz1_0 : w.heap.size < w1.heap.size := lt_below hb1 ltg; have hl1_0 := Nat.le_of_lt hz1_0; have hz1_1 : w.heap.size + 1 < w1.heap.size := lt_below hb1 ltg; have hl1_1 := Nat.le_of_lt hz1_1; have hA1 := bnext (w0 := w) bgo hb1; have hs1 := hA1.size; clear hb1)
      | (have := hA2; go_at_call 31; refine (c2 _).mono ?_; rintro r w3 ⟨rfl, hb3⟩; obtain ⟨hc3, hf3⟩ := bcell hb3; have hz3_0 : w.heap.size < w3.heap.size := lt_below hb3 ltg; have hl3_0 := Nat.le_of_lt hz3_0; have hz3_1 : w.heap.size + 1 < w3.heap.size := lt_below hb3 ltg; have hl3_1 := Nat.le_of_lt hz3_1; have hz3_2 : w1.heap.size < w3.heap.size := lt_below hb3 ltg; have hl3_2 := Nat.le_of_lt hz3_2; have hz3_3 : w1.heap.size + 1 < w3.heap.size := lt_below hb3 ltg; have hl3_3 := Nat.le_of_lt hz3_3; have hA3 := bnext (w0 := w) bgo hb3; have hs3 := hA3.size; clear hb3)
      | (go_at_call 31; refine (c1 _).mono ?_; rintro r w2 ⟨rfl, hb2⟩; obtain ⟨hc2, hf2⟩ := bcell hb2; have hz2_0 : w.heap.size < w2.heap.size := lt_below hb2 ltg; have hl2_0 := Nat.le_of_lt hz2_0; have hz2_1 : w.heap.size + 1 < w2.heap.size := lt_below hb2 ltg; have hl2_1 := Nat.le_of_lt hz2_1; have hz2_2 : w1.heap.size < w2.heap.size := lt_below hb2 ltg; have hl2_2 := Nat.le_of_lt hz2_2; have hz2_3 : w1.heap.size + 1 < w2.heap.size := lt_below hb2 ltg; have hl2_3 := Nat.le_of_lt hz2_3; have hA2 := bnext (w0 := w) bgo hb2; have hs2 := hA2.size; clear hb2)
      | (go_at_call 32; refine (c3 _).mono ?_; rintro r w4 ⟨rfl, hb4⟩; obtain ⟨hc4, hf4⟩ := bcell hb4; have hz4_0 : w.heap.size < w4.heap.size := lt_below hb4 ltg; have hl4_0 := Nat.le_of_lt hz4_0; have hz4_1 : w.heap.size + 1 < w4.heap.size := lt_below hb4 ltg; have hl4_1 := Nat.le_of_lt hz4_1; have hz4_2 : w1.heap.size < w4.heap.size := lt_below hb4 ltg; have hl4_2 := Nat.le_of_lt hz4_2; have hz4_3 : w1.heap.size + 1 < w4.heap.size := lt_below hb4 ltg; have hl4_3 := Nat.le_of_lt hz4_3; have hA4 := bnext (w0 := w) bgo hb4; have hs4 := hA4.size; clear hb4))
    exact bodyPost_ret (by simp only [results, Tryz.results9]; go_simp) rfl ⟨rfl, bgo⟩
end
section
variable (n : Int) (A B : Nat) (c x b : Int) (s g : Bool) (k : Nat) (c' x' b' : Int) (s' g' : Bool) (k' : Nat) (E : Int) (w : World) (hT : Tab w)
  (cB : ∀ W, Tab W → Calls Tryz.prog 30 #[.int .i64 n, A4 A, .int .i64 n, A4 B] W fun r w' => r = .returned (.tuple #[OV c s g x k b, OV c' s' g' x' k' b', .int .i64 E]) ∧ Below W.heap.size W w')
include hT cB
end
set_option maxHeartbeats 1000000 in
theorem cmp_l (n : Int) (A B : Nat) (C E : Int) (o : Bool) (w : World) (hT : Tab w)
    (c1 : ∀ W, Tab W → Calls Tryz.prog 9 #[.int .i64 n, A4 A, .int .i64 n, A4 B] W fun r w' => r = .returned (.tuple #[.int .i64 C, .bool o, .int .i64 E]) ∧ Below W.heap.size W w') :
    Calls Tryz.prog 11 #[.int .i64 n, A4 A, A4 B] w fun r w' => r = .returned (.tuple #[.int .i64 C, .bool o, .int .i64 E]) ∧ Below w.heap.size w w' := by
  have hsm := cell_set_map
  go_enter Tryz.func11, Tryz.ntmps11
  go_wp2_with (go_at_call 9; refine (c1 _ (hT.go bgo)).mono ?_; rintro r w1 ⟨rfl, hb1⟩; obtain ⟨hc1, hf1⟩ := bcell hb1; have hz1_0 : w.heap.size < w1.heap.size := lt_below hb1 ltg; have hl1_0 := Nat.le_of_lt hz1_0; have hz1_1 : w.heap.size + 1 < w1.heap.size := lt_below hb1 ltg; have hl1_1 := Nat.le_of_lt hz1_1; have hA1 := bnext (w0 := w) bgo hb1; have hs1 := hA1.size; clear hb1)
  exact bodyPost_ret (by simp only [results, Tryz.results11]; go_simp) rfl ⟨rfl, bgo⟩
end
section
attribute [local irreducible] W4 Nt Nz NT
theorem mE_or (n : Int) (B : Nat) : mE n B = 0 ∨ mE n B = 1 := by
  unfold mE unE vUE
  split <;> split <;> simp
abbrev ODv (d : Dat) (X : Nat) : Value := OV d.c d.s d.g d.x d.k ((X : Nat) : Int)
theorem both_no {f n : Int} {A B : Nat} (hA : A < 2 ^ 256) (hB : B < 2 ^ 256) (w : World) (hT : Tab w) (h : mE f A ≠ 0 ∨ mE n B ≠ 0) :
    ∃ c s g x k b c' s' g' x' k' b', ∀ W, Tab W → Calls Tryz.prog 30 #[.int .i64 f, A4 A, .int .i64 n, A4 B] W fun r w' => r = .returned (.tuple #[OV c s g x k b, OV c' s' g' x' k' b', .int .i64 1]) ∧ Below W.heap.size W w' := by
  obtain ⟨c, s, g, x, k, b, _, cU⟩ := unp_v f A w hT hA
  obtain ⟨c', s', g', x', k', b', _, cV⟩ := unp_v n B w hT hB
  rcases mE_or f A with h1 | h1
  · rcases mE_or n B with h2 | h2
    · omega
    · rw [h1] at cU
      rw [h2] at cV
      exact ⟨c, s, g, x, k, b, c', s', g', x', k', b', fun W hW => both_k f n A B c x b s g k c' x' b' s' g' k' 0 1 W hW cU cV rfl⟩
  · rw [h1] at cU
    exact ⟨c, s, g, x, k, b, 0, false, false, 0, 0, 0, fun W hW => both_e f n A B c x b s g k 1 W hW cU rfl⟩
theorem both_yes {f n : Int} {A B : Nat} (hA : A < 2 ^ 256) (hB : B < 2 ^ 256) (w : World) (hT : Tab w) (h1 : mE f A = 0) (h2 : mE n B = 0) :
    ∀ W, Tab W → Calls Tryz.prog 30 #[.int .i64 f, A4 A, .int .i64 n, A4 B] W fun r w' => r = .returned (.tuple #[ODv (mD f A) (mX f), ODv (mD n B) (mX n), .int .i64 0]) ∧ Below W.heap.size W w' := by
  obtain ⟨c, s, g, x, k, b, e1, cU⟩ := unp_v f A w hT hA
  obtain ⟨c', s', g', x', k', b', e2, cV⟩ := unp_v n B w hT hB
  rw [e1 h1, h1] at cU
  rw [e2 h2, h2] at cV
  exact fun W hW => both_k f n A B _ _ _ _ _ _ _ _ _ _ _ _ 0 0 W hW cU cV rfl
theorem mD_c {n : Int} {B : Nat} (h : mE n B = 0) : (mD n B).c = 1 ∨ (mD n B).c = 2 ∨ (mD n B).c = 3 := by
  rcases mD_K h with ⟨q, _⟩ | ⟨q, _⟩ | ⟨q, _⟩ <;> omega
theorem szD_v {a b : Dat} {X Y : Nat} (hX : X = 2 ∨ X = 10) (hY : Y = 2 ∨ Y = 10) (hc : a.c = 1 ∨ a.c = 2) (hc' : b.c = 1 ∨ b.c = 2) (hk : a.k < 2 ^ 256) (hk' : b.k < 2 ^ 256)
    (hx : (-17000 ≤ a.x ∧ a.x ≤ 17000) ∧ (X = 10 → -10000 ≤ a.x ∧ a.x ≤ 10000)) (hy : (-17000 ≤ b.x ∧ b.x ≤ 17000) ∧ (Y = 10 → -10000 ≤ b.x ∧ b.x ≤ 10000)) (W : World) :
    Calls Tryz.prog 33 #[ODv a X, ODv b Y] W fun r w' => r = .returned (.int .i64 (szD a X b Y)) ∧ Below W.heap.size W w' :=
  osz_v hX hY rfl rfl hc hc' hk hk' (by omega) (by omega) hx.2 hy.2 W
theorem ord_mx (f : Int) (A : Nat) (n : Int) (B : Nat) (w : World) (hA : A < 2 ^ 256) (hB : B < 2 ^ 256) (hT : Tab w) :
    Calls Tryz.prog 9 #[.int .i64 f, A4 A, .int .i64 n, A4 B] w fun r w' => r = .returned (.tuple #[.int .i64 (oMc f A n B), .bool (oMo f A n B), .int .i64 (oME f A n B)]) ∧ Below w.heap.size w w' := by
  unfold oMc oMo oME
  by_cases h : mE f A ≠ 0 ∨ mE n B ≠ 0
  · rw [if_pos h, if_pos h, if_pos h]
    obtain ⟨c, s, g, x, k, b, c', s', g', x', k', b', cB⟩ := both_no hA hB w hT h
    exact mx_e f n A B c x b s g k c' x' b' s' g' k' 1 w hT cB (Or.inl rfl)
  · have h1 : mE f A = 0 := Classical.byContradiction fun q => h (Or.inl q)
    have h2 : mE n B = 0 := Classical.byContradiction fun q => h (Or.inr q)
    rw [if_neg h, if_neg h, if_neg h]
    have cB := both_yes hA hB w hT h1 h2
    have ka := mD_256 f A
    have kb := mD_256 n B
    have ca := mD_c h1
    have cb := mD_c h2
    have xa := mD_x f A
    have xb := mD_x n B
    have Xa := mX_or f
    have Xb := mX_or n
    generalize mD f A = a at *
    generalize mD n B = d at *
    generalize mX f = X at *
    generalize mX n = Y at *
    by_cases h3 : a.c = 3 ∨ d.c = 3
    · rw [if_pos h3, if_pos h3]
      refine mx_e f n A B _ _ _ _ _ _ _ _ _ _ _ _ 0 w hT cB (Or.inr ⟨rfl, rfl, ?_⟩)
      by_cases q : a.c = 3
      · exact Or.inl (by rw [q]; rfl)
      · exact Or.inr ⟨by simpa using q, by rw [h3.resolve_left q]; rfl⟩
    · rw [if_neg h3, if_neg h3]
      have ha2 : a.c = 1 ∨ a.c = 2 := by omega
      have hb2 : d.c = 1 ∨ d.c = 2 := by omega
      have e3 : (a.c == 3) = false := by simpa using fun q => h3 (Or.inl q)
      have e4 : (d.c == 3) = false := by simpa using fun q => h3 (Or.inr q)
      have c1 := fun W => ont_v a.c a.x ((X : Nat) : Int) a.s a.g a.k ka W
      have c2 := fun W => ont_v d.c d.x ((Y : Nat) : Int) d.s d.g d.k kb W
      by_cases hna : nghtD a
      · by_cases hnb : nghtD d
        · rw [oV_nn hna hnb]
          have d1 : decide (a.c = 1 ∧ a.k = 0) = true := decide_eq_true hna
          have d2 : decide (d.c = 1 ∧ d.k = 0) = true := decide_eq_true hnb
          rw [d1] at c1
          rw [d2] at c2
          exact mx_0 f n A B _ _ _ _ _ _ _ _ _ _ _ _ 0 w hT cB rfl e3 e4 c1 c2
        · rw [← oV_sg ha2 hb2 (fun q => hnb q.2)]
          exact mx_v f n A B _ _ _ _ _ _ _ _ _ _ _ _ 0 w hT cB rfl e3 e4 _ _ (Or.inr ⟨decide_eq_true hna, decide_eq_false hnb⟩) _ c1 c2 (fun W => sg_s _ _ _ _ _ _ _ _ _ _ _ _ _ _ W (fun W => szD_v Xa Xb ha2 hb2 ka kb xa xb W) (fun W => szD_v Xb Xa hb2 ha2 kb ka xb xa W))
      · rw [← oV_sg ha2 hb2 (fun q => hna q.1)]
        exact mx_v f n A B _ _ _ _ _ _ _ _ _ _ _ _ 0 w hT cB rfl e3 e4 _ _ (Or.inl (decide_eq_false hna)) _ c1 c2 (fun W => sg_s _ _ _ _ _ _ _ _ _ _ _ _ _ _ W (fun W => szD_v Xa Xb ha2 hb2 ka kb xa xb W) (fun W => szD_v Xb Xa hb2 ha2 kb ka xb xa W))
theorem ordC : OrdC Tab := ⟨fun w w' h hb => h.go hb, fun n Ar Br W hA hB hT => cmp_l n Ar Br _ _ _ W hT (fun W' hT' => ord_mx n Ar n Br W' hA hB hT')⟩
end
section
attribute [local irreducible] W4 NT NV
section
variable (n : Int) (Bp : Nat) (w : World)
set_option maxHeartbeats 2000000 in
theorem rnx_f (up : Bool) (c1 : ∀ W, Calls Tryz.prog 44 #[.int .i64 n, A4 Bp] W fun r w' => r = .returned (.bool false) ∧ Below W.heap.size W w') :
    Calls Tryz.prog 17 #[.int .i64 n, A4 Bp, .bool up] w fun r w' => r = .returned (.tuple #[Z4, .int .i64 0, .int .i64 1]) ∧ Below w.heap.size w w' := by
  have hsm := cell_set_map
  unfold A4 at *
  go_enter Tryz.func17, Tryz.ntmps17
  go_wp2_with (first
    | (go_at_call 44; refine (c1 _).mono ?_; rintro r w1 ⟨rfl, hb1⟩; obtain ⟨hc1, hf1⟩ := bcell hb1; have hz1_0 : w.heap.size < w1.heap.size := lt_below hb1 ltg; have hl1_0 := Nat.le_of_lt hz1_0; have hz1_1 : w.heap.size + 1 < w1.heap.size := lt_below hb1 ltg; have hl1_1 := Nat.le_of_lt hz1_1; have hA1 := bnext (w0 := w) bgo hb1; have hs1 := hA1.size; clear hb1))
  exact bodyPost_ret (by simp only [results, Tryz.results17]; go_simp) rfl ⟨rfl, bgo⟩
set_option maxHeartbeats 2000000 in
theorem rnx_b (up : Bool) (c1 : ∀ W, Calls Tryz.prog 44 #[.int .i64 n, A4 Bp] W fun r w' => r = .returned (.bool true) ∧ Below W.heap.size W w') (c2 : ∀ W, Calls Tryz.prog 38 #[.int .i64 n] W fun r w' => r = .returned (.bool false) ∧ W = w') :
    Calls Tryz.prog 17 #[.int .i64 n, A4 Bp, .bool up] w fun r w' => r = .returned (.tuple #[Z4, .int .i64 0, .int .i64 6]) ∧ Below w.heap.size w w' := by
  have hsm := cell_set_map
  unfold A4 at *
  go_enter Tryz.func17, Tryz.ntmps17
  go_wp2_with (first
    | (go_at_call 44; refine (c1 _).mono ?_; rintro r w1 ⟨rfl, hb1⟩; obtain ⟨hc1, hf1⟩ := bcell hb1; have hz1_0 : w.heap.size < w1.heap.size := lt_below hb1 ltg; have hl1_0 := Nat.le_of_lt hz1_0; have hz1_1 : w.heap.size + 1 < w1.heap.size := lt_below hb1 ltg; have hl1_1 := Nat.le_of_lt hz1_1; have hA1 := bnext (w0 := w) bgo hb1; have hs1 := hA1.size; clear hb1)
    | (go_at_call 38; refine (c2 _).mono ?_; rintro r w1b ⟨rfl, rfl⟩))
  exact bodyPost_ret (by simp only [results, Tryz.results17]; go_simp) rfl ⟨rfl, bgo⟩
variable (c x : Int) (s g : Bool) (k : Nat) (nm : ByteArray) (bs wd pr ex le mo pa : Int) (dn : Bool)
  (c1 : ∀ W, Calls Tryz.prog 44 #[.int .i64 n, A4 Bp] W fun r w' => r = .returned (.bool true) ∧ Below W.heap.size W w')
  (c2 : ∀ W, Calls Tryz.prog 38 #[.int .i64 n] W fun r w' => r = .returned (.bool true) ∧ W = w')
  (c3 : ∀ W, Calls Tryz.prog 18 #[.int .i64 n, A4 Bp] W fun r w' => r = .returned (.tuple #[DV c s g x k, .int .i64 0]) ∧ Below W.heap.size W w')
  (c4 : ∀ W, Calls Tryz.prog 20 #[.int .i64 n] W fun r w' => r = .returned (.tuple #[.agg #[.int .i64 n, .string nm, .int .i64 bs, .int .i64 wd, .int .i64 pr, .int .i64 ex, .int .i64 le, .int .i64 mo, .int .i64 pa, .bool dn], .int .i64 0]) ∧ Below W.heap.size W w')
include c1 c2 c3 c4
set_option maxHeartbeats 4000000 in
theorem rnx_3 (up : Bool) (hc : c = 3) (R : Nat) (E : Int) (c5 : ∀ W, Calls Tryz.prog 45 #[.int .i64 n, A4 Bp] W fun r w' => r = .returned (.tuple #[A4 R, .int .i64 E]) ∧ Below W.heap.size W w') :
    Calls Tryz.prog 17 #[.int .i64 n, A4 Bp, .bool up] w fun r w' => r = .returned (.tuple #[A4 R, .int .i64 (if g then 1 else 0), .int .i64 0]) ∧ Below w.heap.size w w' := by
  subst hc
  have hsm := cell_set_map
  unfold DV A4 at *
  cases g
  · show Calls _ _ _ w fun r w' => r = .returned (.tuple #[.agg #[.int .u64 (W4 R 0), .int .u64 (W4 R 1), .int .u64 (W4 R 2), .int .u64 (W4 R 3)], .int .i64 0, .int .i64 0]) ∧ Below w.heap.size w w'
    go_enter Tryz.func17, Tryz.ntmps17
    go_wp2_with (first
    | (go_at_call 44; refine (c1 _).mono ?_; rintro r w1 ⟨rfl, hb1⟩; obtain ⟨hc1, hf1⟩ := bcell hb1; have hz1_0 : w.heap.size < w1.heap.size := lt_below hb1 ltg; have hl1_0 := Nat.le_of_lt hz1_0; have hz1_1 : w.heap.size + 1 < w1.heap.size := lt_below hb1 ltg; have hl1_1 := Nat.le_of_lt hz1_1; have hA1 := bnext (w0 := w) bgo hb1; have hs1 := hA1.size; clear hb1)
    | (go_at_call 38; refine (c2 _).mono ?_; rintro r w1b ⟨rfl, rfl⟩)
    | (go_at_call 18; refine (c3 _).mono ?_; rintro r w2 ⟨rfl, hb2⟩; obtain ⟨hc2, hf2⟩ := bcell hb2; have hz2_0 : w.heap.size < w2.heap.size := lt_below hb2 ltg; have hl2_0 := Nat.le_of_lt hz2_0; have hz2_1 : w.heap.size + 1 < w2.heap.size := lt_below hb2 ltg; have hl2_1 := Nat.le_of_lt hz2_1; have hA2 := bnext (w0 := w) bgo hb2; have hs2 := hA2.size; clear hb2)
    | (go_at_call 20; refine (c4 _).mono ?_; rintro r w3 ⟨rfl, hb3⟩; obtain ⟨hc3, hf3⟩ := bcell hb3; have hz3_0 : w.heap.size < w3.heap.size := lt_below hb3 ltg; have hl3_0 := Nat.le_of_lt hz3_0; have hz3_1 : w.heap.size + 1 < w3.heap.size := lt_below hb3 ltg; have hl3_1 := Nat.le_of_lt hz3_1; have hz3_2 : w2.heap.size < w3.heap.size := lt_below hb3 ltg; have hl3_2 := Nat.le_of_lt hz3_2; have hA3 := bnext (w0 := w) bgo hb3; have hs3 := hA3.size; clear hb3)
    | (go_at_call 45; refine (c5 _).mono ?_; rintro r w4 ⟨rfl, hb4⟩; obtain ⟨hc4, hf4⟩ := bcell hb4; have hz4_0 : w.heap.size < w4.heap.size := lt_below hb4 ltg; have hl4_0 := Nat.le_of_lt hz4_0; have hz4_1 : w.heap.size + 1 < w4.heap.size := lt_below hb4 ltg; have hl4_1 := Nat.le_of_lt hz4_1; have hz4_2 : w2.heap.size < w4.heap.size := lt_below hb4 ltg; have hl4_2 := Nat.le_of_lt hz4_2; have hz4_3 : w3.heap.size < w4.heap.size := lt_below hb4 ltg; have hl4_3 := Nat.le_of_lt hz4_3; have hA4 := bnext (w0 := w) bgo hb4; have hs4 := hA4.size; clear hb4))
    exact bodyPost_ret (by simp only [results, Tryz.results17]; go_simp) rfl ⟨rfl, bgo⟩
  · show Calls _ _ _ w fun r w' => r = .returned (.tuple #[.agg #[.int .u64 (W4 R 0), .int .u64 (W4 R 1), .int .u64 (W4 R 2), .int .u64 (W4 R 3)], .int .i64 1, .int .i64 0]) ∧ Below w.heap.size w w'
    go_enter Tryz.func17, Tryz.ntmps17
    go_wp2_with (first
    | (go_at_call 44; refine (c1 _).mono ?_; rintro r w1 ⟨rfl, hb1⟩; obtain ⟨hc1, hf1⟩ := bcell hb1; have hz1_0 : w.heap.size < w1.heap.size := lt_below hb1 ltg; have hl1_0 := Nat.le_of_lt hz1_0; have hz1_1 : w.heap.size + 1 < w1.heap.size := lt_below hb1 ltg; have hl1_1 := Nat.le_of_lt hz1_1; have hA1 := bnext (w0 := w) bgo hb1; have hs1 := hA1.size; clear hb1)
    | (go_at_call 38; refine (c2 _).mono ?_; rintro r w1b ⟨rfl, rfl⟩)
    | (go_at_call 18; refine (c3 _).mono ?_; rintro r w2 ⟨rfl, hb2⟩; obtain ⟨hc2, hf2⟩ := bcell hb2; have hz2_0 : w.heap.size < w2.heap.size := lt_below hb2 ltg; have hl2_0 := Nat.le_of_lt hz2_0; have hz2_1 : w.heap.size + 1 < w2.heap.size := lt_below hb2 ltg; have hl2_1 := Nat.le_of_lt hz2_1; have hA2 := bnext (w0 := w) bgo hb2; have hs2 := hA2.size; clear hb2)
    | (go_at_call 20; refine (c4 _).mono ?_; rintro r w3 ⟨rfl, hb3⟩; obtain ⟨hc3, hf3⟩ := bcell hb3; have hz3_0 : w.heap.size < w3.heap.size := lt_below hb3 ltg; have hl3_0 := Nat.le_of_lt hz3_0; have hz3_1 : w.heap.size + 1 < w3.heap.size := lt_below hb3 ltg; have hl3_1 := Nat.le_of_lt hz3_1; have hz3_2 : w2.heap.size < w3.heap.size := lt_below hb3 ltg; have hl3_2 := Nat.le_of_lt hz3_2; have hA3 := bnext (w0 := w) bgo hb3; have hs3 := hA3.size; clear hb3)
    | (go_at_call 45; refine (c5 _).mono ?_; rintro r w4 ⟨rfl, hb4⟩; obtain ⟨hc4, hf4⟩ := bcell hb4; have hz4_0 : w.heap.size < w4.heap.size := lt_below hb4 ltg; have hl4_0 := Nat.le_of_lt hz4_0; have hz4_1 : w.heap.size + 1 < w4.heap.size := lt_below hb4 ltg; have hl4_1 := Nat.le_of_lt hz4_1; have hz4_2 : w2.heap.size < w4.heap.size := lt_below hb4 ltg; have hl4_2 := Nat.le_of_lt hz4_2; have hz4_3 : w3.heap.size < w4.heap.size := lt_below hb4 ltg; have hl4_3 := Nat.le_of_lt hz4_3; have hA4 := bnext (w0 := w) bgo hb4; have hs4 := hA4.size; clear hb4))
    exact bodyPost_ret (by simp only [results, Tryz.results17]; go_simp) rfl ⟨rfl, bgo⟩
set_option maxHeartbeats 4000000 in
theorem rnx_0 (up : Bool) (hc : c = 1) (h0 : k = 0) (R : Nat) (E : Int) (c5 : ∀ W, Calls Tryz.prog 46 #[.int .i64 n, .agg #[.int .i64 1, .bool (!up), .bool false, .int .i64 le, .int .u64 1, .int .u64 0, .int .u64 0, .int .u64 0]] W fun r w' => r = .returned (.tuple #[A4 R, .int .i64 E]) ∧ Below W.heap.size W w') :
    Calls Tryz.prog 17 #[.int .i64 n, A4 Bp, .bool up] w fun r w' => r = .returned (.tuple #[A4 R, .int .i64 0, .int .i64 0]) ∧ Below w.heap.size w w' := by
  subst hc
  have h24 := eq24 (W4 k 0) (W4 k 1) (W4 k 2) (W4 k 3) 0 0 0 0
  rw [W4_none (by rw [h0]; decide), decide_eq_true h0] at h24
  clear h0
  have hsm := cell_set_map
  unfold DV A4 at *
  go_enter Tryz.func17, Tryz.ntmps17
  go_wp2_with (first
    | (go_at_call 44; refine (c1 _).mono ?_; rintro r w1 ⟨rfl, hb1⟩; obtain ⟨hc1, hf1⟩ := bcell hb1; have hz1_0 : w.heap.size < w1.heap.size := lt_below hb1 ltg; have hl1_0 := Nat.le_of_lt hz1_0; have hz1_1 : w.heap.size + 1 < w1.heap.size := lt_below hb1 ltg; have hl1_1 := Nat.le_of_lt hz1_1; have hA1 := bnext (w0 := w) bgo hb1; have hs1 := hA1.size; clear hb1)
    | (go_at_call 38; refine (c2 _).mono ?_; rintro r w1b ⟨rfl, rfl⟩)
    | (go_at_call 18; refine (c3 _).mono ?_; rintro r w2 ⟨rfl, hb2⟩; obtain ⟨hc2, hf2⟩ := bcell hb2; have hz2_0 : w.heap.size < w2.heap.size := lt_below hb2 ltg; have hl2_0 := Nat.le_of_lt hz2_0; have hz2_1 : w.heap.size + 1 < w2.heap.size := lt_below hb2 ltg; have hl2_1 := Nat.le_of_lt hz2_1; have hA2 := bnext (w0 := w) bgo hb2; have hs2 := hA2.size; clear hb2)
    | (go_at_call 20; refine (c4 _).mono ?_; rintro r w3 ⟨rfl, hb3⟩; obtain ⟨hc3, hf3⟩ := bcell hb3; have hz3_0 : w.heap.size < w3.heap.size := lt_below hb3 ltg; have hl3_0 := Nat.le_of_lt hz3_0; have hz3_1 : w.heap.size + 1 < w3.heap.size := lt_below hb3 ltg; have hl3_1 := Nat.le_of_lt hz3_1; have hz3_2 : w2.heap.size < w3.heap.size := lt_below hb3 ltg; have hl3_2 := Nat.le_of_lt hz3_2; have hA3 := bnext (w0 := w) bgo hb3; have hs3 := hA3.size; clear hb3)
    | (go_at_call 46; refine (c5 _).mono ?_; rintro r w4 ⟨rfl, hb4⟩; obtain ⟨hc4, hf4⟩ := bcell hb4; have hz4_0 : w.heap.size < w4.heap.size := lt_below hb4 ltg; have hl4_0 := Nat.le_of_lt hz4_0; have hz4_1 : w.heap.size + 1 < w4.heap.size := lt_below hb4 ltg; have hl4_1 := Nat.le_of_lt hz4_1; have hz4_2 : w2.heap.size < w4.heap.size := lt_below hb4 ltg; have hl4_2 := Nat.le_of_lt hz4_2; have hz4_3 : w3.heap.size < w4.heap.size := lt_below hb4 ltg; have hl4_3 := Nat.le_of_lt hz4_3; have hA4 := bnext (w0 := w) bgo hb4; have hs4 := hA4.size; clear hb4))
  exact bodyPost_ret (v := .tuple #[A4 R, .int .i64 0, .int .i64 0]) (by unfold A4; simp only [results, Tryz.results17]; go_simp) rfl ⟨rfl, bgo⟩
set_option maxHeartbeats 4000000 in
theorem rnx_i (hc : c = 2) :
    Calls Tryz.prog 17 #[.int .i64 n, A4 Bp, .bool (!s)] w fun r w' => r = .returned (.tuple #[A4 Bp, .int .i64 0, .int .i64 0]) ∧ Below w.heap.size w w' := by
  subst hc
  have hsm := cell_set_map
  unfold DV A4 at *
  cases s
  all_goals
    go_enter Tryz.func17, Tryz.ntmps17
    go_wp2_with (first
    | (go_at_call 44; refine (c1 _).mono ?_; rintro r w1 ⟨rfl, hb1⟩; obtain ⟨hc1, hf1⟩ := bcell hb1; have hz1_0 : w.heap.size < w1.heap.size := lt_below hb1 ltg; have hl1_0 := Nat.le_of_lt hz1_0; have hz1_1 : w.heap.size + 1 < w1.heap.size := lt_below hb1 ltg; have hl1_1 := Nat.le_of_lt hz1_1; have hA1 := bnext (w0 := w) bgo hb1; have hs1 := hA1.size; clear hb1)
    | (go_at_call 38; refine (c2 _).mono ?_; rintro r w1b ⟨rfl, rfl⟩)
    | (go_at_call 18; refine (c3 _).mono ?_; rintro r w2 ⟨rfl, hb2⟩; obtain ⟨hc2, hf2⟩ := bcell hb2; have hz2_0 : w.heap.size < w2.heap.size := lt_below hb2 ltg; have hl2_0 := Nat.le_of_lt hz2_0; have hz2_1 : w.heap.size + 1 < w2.heap.size := lt_below hb2 ltg; have hl2_1 := Nat.le_of_lt hz2_1; have hA2 := bnext (w0 := w) bgo hb2; have hs2 := hA2.size; clear hb2)
    | (go_at_call 20; refine (c4 _).mono ?_; rintro r w3 ⟨rfl, hb3⟩; obtain ⟨hc3, hf3⟩ := bcell hb3; have hz3_0 : w.heap.size < w3.heap.size := lt_below hb3 ltg; have hl3_0 := Nat.le_of_lt hz3_0; have hz3_1 : w.heap.size + 1 < w3.heap.size := lt_below hb3 ltg; have hl3_1 := Nat.le_of_lt hz3_1; have hz3_2 : w2.heap.size < w3.heap.size := lt_below hb3 ltg; have hl3_2 := Nat.le_of_lt hz3_2; have hA3 := bnext (w0 := w) bgo hb3; have hs3 := hA3.size; clear hb3))
    exact bodyPost_ret (by simp only [results, Tryz.results17]; go_simp) rfl ⟨rfl, bgo⟩
set_option maxHeartbeats 4000000 in
theorem rnx_l (hc : c = 2) (R : Nat) (E : Int) (c5 : ∀ W, Calls Tryz.prog 47 #[.int .i64 n, .bool s] W fun r w' => r = .returned (.tuple #[A4 R, .int .i64 E]) ∧ Below W.heap.size W w') :
    Calls Tryz.prog 17 #[.int .i64 n, A4 Bp, .bool s] w fun r w' => r = .returned (.tuple #[A4 R, .int .i64 0, .int .i64 0]) ∧ Below w.heap.size w w' := by
  subst hc
  have hsm := cell_set_map
  unfold DV A4 at *
  cases s
  all_goals
    go_enter Tryz.func17, Tryz.ntmps17
    go_wp2_with (first
    | (go_at_call 44; refine (c1 _).mono ?_; rintro r w1 ⟨rfl, hb1⟩; obtain ⟨hc1, hf1⟩ := bcell hb1; have hz1_0 : w.heap.size < w1.heap.size := lt_below hb1 ltg; have hl1_0 := Nat.le_of_lt hz1_0; have hz1_1 : w.heap.size + 1 < w1.heap.size := lt_below hb1 ltg; have hl1_1 := Nat.le_of_lt hz1_1; have hA1 := bnext (w0 := w) bgo hb1; have hs1 := hA1.size; clear hb1)
    | (go_at_call 38; refine (c2 _).mono ?_; rintro r w1b ⟨rfl, rfl⟩)
    | (go_at_call 18; refine (c3 _).mono ?_; rintro r w2 ⟨rfl, hb2⟩; obtain ⟨hc2, hf2⟩ := bcell hb2; have hz2_0 : w.heap.size < w2.heap.size := lt_below hb2 ltg; have hl2_0 := Nat.le_of_lt hz2_0; have hz2_1 : w.heap.size + 1 < w2.heap.size := lt_below hb2 ltg; have hl2_1 := Nat.le_of_lt hz2_1; have hA2 := bnext (w0 := w) bgo hb2; have hs2 := hA2.size; clear hb2)
    | (go_at_call 20; refine (c4 _).mono ?_; rintro r w3 ⟨rfl, hb3⟩; obtain ⟨hc3, hf3⟩ := bcell hb3; have hz3_0 : w.heap.size < w3.heap.size := lt_below hb3 ltg; have hl3_0 := Nat.le_of_lt hz3_0; have hz3_1 : w.heap.size + 1 < w3.heap.size := lt_below hb3 ltg; have hl3_1 := Nat.le_of_lt hz3_1; have hz3_2 : w2.heap.size < w3.heap.size := lt_below hb3 ltg; have hl3_2 := Nat.le_of_lt hz3_2; have hA3 := bnext (w0 := w) bgo hb3; have hs3 := hA3.size; clear hb3)
    | (go_at_call 47; refine (c5 _).mono ?_; rintro r w4 ⟨rfl, hb4⟩; obtain ⟨hc4, hf4⟩ := bcell hb4; have hz4_0 : w.heap.size < w4.heap.size := lt_below hb4 ltg; have hl4_0 := Nat.le_of_lt hz4_0; have hz4_1 : w.heap.size + 1 < w4.heap.size := lt_below hb4 ltg; have hl4_1 := Nat.le_of_lt hz4_1; have hz4_2 : w2.heap.size < w4.heap.size := lt_below hb4 ltg; have hl4_2 := Nat.le_of_lt hz4_2; have hz4_3 : w3.heap.size < w4.heap.size := lt_below hb4 ltg; have hl4_3 := Nat.le_of_lt hz4_3; have hA4 := bnext (w0 := w) bgo hb4; have hs4 := hA4.size; clear hb4))
    exact bodyPost_ret (v := .tuple #[A4 R, .int .i64 0, .int .i64 0]) (by unfold A4; simp only [results, Tryz.results17]; go_simp) rfl ⟨rfl, bgo⟩
end
end
section
attribute [local irreducible] W4 NT NV
section
variable (n : Int) (Bp : Nat) (w : World)
variable (c x : Int) (s g : Bool) (k : Nat) (nm : ByteArray) (bs wd pr ex le mo pa : Int) (dn : Bool)
  (c1 : ∀ W, Calls Tryz.prog 44 #[.int .i64 n, A4 Bp] W fun r w' => r = .returned (.bool true) ∧ Below W.heap.size W w')
  (c2 : ∀ W, Calls Tryz.prog 38 #[.int .i64 n] W fun r w' => r = .returned (.bool true) ∧ W = w')
  (c3 : ∀ W, Calls Tryz.prog 18 #[.int .i64 n, A4 Bp] W fun r w' => r = .returned (.tuple #[DV c s g x k, .int .i64 0]) ∧ Below W.heap.size W w')
  (c4 : ∀ W, Calls Tryz.prog 20 #[.int .i64 n] W fun r w' => r = .returned (.tuple #[.agg #[.int .i64 n, .string nm, .int .i64 bs, .int .i64 wd, .int .i64 pr, .int .i64 ex, .int .i64 le, .int .i64 mo, .int .i64 pa, .bool dn], .int .i64 0]) ∧ Below W.heap.size W w')
include c1 c2 c3 c4
variable (hc : c = 1) (hk0 : k ≠ 0) (hk : k < 2 ^ 256) (hx : -100000 ≤ x ∧ x ≤ 100000)
  (c5 : ∀ W, Calls Tryz.prog 48 #[A4 k] W fun r w' => ∃ v, r = .returned v ∧ NV 10 k v w' ∧ Below W.heap.size W w')
include hc hk0 hk hx c5
set_option maxHeartbeats 8000000 in
theorem rnx_a1 (L : Int) (hL : ¬ L > pr) (hM : ¬ x > mo) (R : Nat) (E : Int)
    (c6 : ∀ W u v, NV 10 k u W → NV 900 1 v W → Calls Tryz.prog 21 #[u, v] W fun r w' => ∃ a, r = .returned a ∧ NV 950 (k + 1) a w' ∧ Below W.heap.size W w')
    (c7 : ∀ W u, NV 950 (k + 1) u W → Calls Tryz.prog 23 #[u] W fun r w' => r = .returned (.int .i64 L) ∧ Below W.heap.size W w')
    (c8 : ∀ W u, NV 950 (k + 1) u W → Calls Tryz.prog 28 #[u] W fun r w' => r = .returned (A4 (k + 1)) ∧ Below W.heap.size W w')
    (c9 : ∀ W, Calls Tryz.prog 46 #[.int .i64 n, DV 1 s g (x) (k + 1)] W fun r w' => r = .returned (.tuple #[A4 R, .int .i64 E]) ∧ Below W.heap.size W w') :
    Calls Tryz.prog 17 #[.int .i64 n, A4 Bp, .bool (!s)] w fun r w' => r = .returned (.tuple #[A4 R, .int .i64 0, .int .i64 0]) ∧ Below w.heap.size w w' := by
  subst hc
  have h24 := eq24 (W4 k 0) (W4 k 1) (W4 k 2) (W4 k 3) 0 0 0 0
  rw [W4_none hk, decide_eq_false hk0] at h24
  clear hk0
  have hsm := cell_set_map
  unfold DV A4 at *
  cases s
  all_goals (
  go_enter Tryz.func17, Tryz.ntmps17
  go_wp2_with (first
    | (go_at_call 44; refine (c1 _).mono ?_; rintro r w1 ⟨rfl, hb1⟩; obtain ⟨hc1, hf1⟩ := bcell hb1; have hz1_0 : w.heap.size < w1.heap.size := lt_below hb1 ltg; have hl1_0 := Nat.le_of_lt hz1_0; have hz1_1 : w.heap.size + 1 < w1.heap.size := lt_below hb1 ltg; have hl1_1 := Nat.le_of_lt hz1_1; have hA1 := bnext (w0 := w) bgo hb1; have hs1 := hA1.size; clear hb1)
    | (go_at_call 38; refine (c2 _).mono ?_; rintro r w1b ⟨rfl, rfl⟩)
    | (go_at_call 18; refine (c3 _).mono ?_; rintro r w2 ⟨rfl, hb2⟩; obtain ⟨hc2, hf2⟩ := bcell hb2; have hz2_0 : w.heap.size < w2.heap.size := lt_below hb2 ltg; have hl2_0 := Nat.le_of_lt hz2_0; have hz2_1 : w.heap.size + 1 < w2.heap.size := lt_below hb2 ltg; have hl2_1 := Nat.le_of_lt hz2_1; have hA2 := bnext (w0 := w) bgo hb2; have hs2 := hA2.size; clear hb2)
    | (go_at_call 20; refine (c4 _).mono ?_; rintro r w3 ⟨rfl, hb3⟩; obtain ⟨hc3, hf3⟩ := bcell hb3; have hz3_0 : w.heap.size < w3.heap.size := lt_below hb3 ltg; have hl3_0 := Nat.le_of_lt hz3_0; have hz3_1 : w.heap.size + 1 < w3.heap.size := lt_below hb3 ltg; have hl3_1 := Nat.le_of_lt hz3_1; have hz3_2 : w2.heap.size < w3.heap.size := lt_below hb3 ltg; have hl3_2 := Nat.le_of_lt hz3_2; have hA3 := bnext (w0 := w) bgo hb3; have hs3 := hA3.size; clear hb3)
    | (go_at_call 48; refine (c5 _).mono ?_; rintro r w4 ⟨v4, rfl, hv4, hb4⟩; obtain ⟨hc4, hf4⟩ := bcell hb4; have hz4_0 : w.heap.size < w4.heap.size := lt_below hb4 ltg; have hl4_0 := Nat.le_of_lt hz4_0; have hz4_1 : w.heap.size + 1 < w4.heap.size := lt_below hb4 ltg; have hl4_1 := Nat.le_of_lt hz4_1; have hz4_2 : w2.heap.size < w4.heap.size := lt_below hb4 ltg; have hl4_2 := Nat.le_of_lt hz4_2; have hz4_3 : w3.heap.size < w4.heap.size := lt_below hb4 ltg; have hl4_3 := Nat.le_of_lt hz4_3; have hA4 := bnext (w0 := w) bgo hb4; have hs4 := hA4.size; clear hb4)
    | (go_at_call 21; refine (c6 _ _ _ (hv4.next (below1 _ _)) (nt_oneB (by simp)).nv).mono ?_; rintro r w5 ⟨v5, rfl, hv5, hb5⟩; obtain ⟨hc5, hf5⟩ := bcell hb5; have hz5_0 : w.heap.size < w5.heap.size := lt_below hb5 ltg; have hl5_0 := Nat.le_of_lt hz5_0; have hz5_1 : w.heap.size + 1 < w5.heap.size := lt_below hb5 ltg; have hl5_1 := Nat.le_of_lt hz5_1; have hz5_2 : w2.heap.size < w5.heap.size := lt_below hb5 ltg; have hl5_2 := Nat.le_of_lt hz5_2; have hz5_3 : w3.heap.size < w5.heap.size := lt_below hb5 ltg; have hl5_3 := Nat.le_of_lt hz5_3; have hA5 := bnext (w0 := w) bgo hb5; have hs5 := hA5.size; clear hb5))
  refine wp_tail 4 (by kernel_rfl) (by kernel_rfl) (by kernel_rfl) (fun _ _ d _ _ h => by cases d <;> exact h) fun hne hcell => ?_
  simp only [List.take_succ_cons, List.take_zero, List.drop_succ_cons, List.drop_zero]
  repeat go_big_quiet_step (fail)
  go_big_quiet_step ((go_at_call 23; exact calls_wd _ bk_next (c7 _ _ (hv5.next (Wd.h _)))))
  repeat go_big_quiet_step (fail)
  refine wpQuiet_nil fun w6 hb6 => ?_
  have hv6 := hv5.next hb6
  obtain ⟨hc6, hf6⟩ := bcell hb6; have hz6_0 : w.heap.size < w6.heap.size := lt_below hb6 ltg; have hl6_0 := Nat.le_of_lt hz6_0; have hz6_1 : w.heap.size + 1 < w6.heap.size := lt_below hb6 ltg; have hl6_1 := Nat.le_of_lt hz6_1; have hz6_2 : w2.heap.size < w6.heap.size := lt_below hb6 ltg; have hl6_2 := Nat.le_of_lt hz6_2; have hz6_3 : w3.heap.size < w6.heap.size := lt_below hb6 ltg; have hl6_3 := Nat.le_of_lt hz6_3; have hA6 := bnext (w0 := w) bgo hb6; have hs6 := hA6.size; clear hb6
  go_wp2_with (first
    | (go_at_call 28; refine (c8 _ _ hv6).mono ?_; rintro r w8 ⟨rfl, hb8⟩; obtain ⟨hc8, hf8⟩ := bcell hb8; have hz8_0 : w.heap.size < w8.heap.size := lt_below hb8 ltg; have hl8_0 := Nat.le_of_lt hz8_0; have hz8_1 : w.heap.size + 1 < w8.heap.size := lt_below hb8 ltg; have hl8_1 := Nat.le_of_lt hz8_1; have hz8_2 : w2.heap.size < w8.heap.size := lt_below hb8 ltg; have hl8_2 := Nat.le_of_lt hz8_2; have hz8_3 : w3.heap.size < w8.heap.size := lt_below hb8 ltg; have hl8_3 := Nat.le_of_lt hz8_3; have hA8 := bnext (w0 := w) bgo hb8; have hs8 := hA8.size; clear hb8)
    | (go_at_call 46; refine (c9 _).mono ?_; rintro r w9 ⟨rfl, hb9⟩; obtain ⟨hc9, hf9⟩ := bcell hb9; have hz9_0 : w.heap.size < w9.heap.size := lt_below hb9 ltg; have hl9_0 := Nat.le_of_lt hz9_0; have hz9_1 : w.heap.size + 1 < w9.heap.size := lt_below hb9 ltg; have hl9_1 := Nat.le_of_lt hz9_1; have hz9_2 : w2.heap.size < w9.heap.size := lt_below hb9 ltg; have hl9_2 := Nat.le_of_lt hz9_2; have hz9_3 : w3.heap.size < w9.heap.size := lt_below hb9 ltg; have hl9_3 := Nat.le_of_lt hz9_3; have hA9 := bnext (w0 := w) bgo hb9; have hs9 := hA9.size; clear hb9))
  exact bodyPost_ret (v := .tuple #[A4 R, .int .i64 0, .int .i64 0]) (by unfold A4; simp only [results, Tryz.results17]; go_simp) rfl ⟨rfl, bgo⟩)
set_option maxHeartbeats 8000000 in
theorem rnx_a2 (L : Int) (hL : L > pr) (hM : ¬ x + 1 > mo) (R : Nat) (E : Int)
    (c6 : ∀ W u v, NV 10 k u W → NV 900 1 v W → Calls Tryz.prog 21 #[u, v] W fun r w' => ∃ a, r = .returned a ∧ NV 950 (k + 1) a w' ∧ Below W.heap.size W w')
    (c7 : ∀ W u, NV 950 (k + 1) u W → Calls Tryz.prog 23 #[u] W fun r w' => r = .returned (.int .i64 L) ∧ Below W.heap.size W w')
    (cR : ∀ W u, NV 950 (k + 1) u W → Calls Tryz.prog 49 #[u, .int .i64 1] W fun r w' => ∃ a q p b, r = .returned (.tuple #[.slice (some ⟨a, 0, none⟩) q p, .bool b]) ∧ W.heap.size ≤ a ∧ NV 950 ((k + 1) / 2) (.slice (some ⟨a, 0, none⟩) q p) w' ∧ Below W.heap.size W w')
    (c8 : ∀ W u, NV 950 ((k + 1) / 2) u W → Calls Tryz.prog 28 #[u] W fun r w' => r = .returned (A4 ((k + 1) / 2)) ∧ Below W.heap.size W w')
    (c9 : ∀ W, Calls Tryz.prog 46 #[.int .i64 n, DV 1 s g (x + 1) ((k + 1) / 2)] W fun r w' => r = .returned (.tuple #[A4 R, .int .i64 E]) ∧ Below W.heap.size W w') :
    Calls Tryz.prog 17 #[.int .i64 n, A4 Bp, .bool (!s)] w fun r w' => r = .returned (.tuple #[A4 R, .int .i64 0, .int .i64 0]) ∧ Below w.heap.size w w' := by
  subst hc
  have h24 := eq24 (W4 k 0) (W4 k 1) (W4 k 2) (W4 k 3) 0 0 0 0
  rw [W4_none hk, decide_eq_false hk0] at h24
  clear hk0
  have hsm := cell_set_map
  unfold DV A4 at *
  cases s
  all_goals (
  go_enter Tryz.func17, Tryz.ntmps17
  go_wp2_with (first
    | (go_at_call 44; refine (c1 _).mono ?_; rintro r w1 ⟨rfl, hb1⟩; obtain ⟨hc1, hf1⟩ := bcell hb1; have hz1_0 : w.heap.size < w1.heap.size := lt_below hb1 ltg; have hl1_0 := Nat.le_of_lt hz1_0; have hz1_1 : w.heap.size + 1 < w1.heap.size := lt_below hb1 ltg; have hl1_1 := Nat.le_of_lt hz1_1; have hA1 := bnext (w0 := w) bgo hb1; have hs1 := hA1.size; clear hb1)
    | (go_at_call 38; refine (c2 _).mono ?_; rintro r w1b ⟨rfl, rfl⟩)
    | (go_at_call 18; refine (c3 _).mono ?_; rintro r w2 ⟨rfl, hb2⟩; obtain ⟨hc2, hf2⟩ := bcell hb2; have hz2_0 : w.heap.size < w2.heap.size := lt_below hb2 ltg; have hl2_0 := Nat.le_of_lt hz2_0; have hz2_1 : w.heap.size + 1 < w2.heap.size := lt_below hb2 ltg; have hl2_1 := Nat.le_of_lt hz2_1; have hA2 := bnext (w0 := w) bgo hb2; have hs2 := hA2.size; clear hb2)
    | (go_at_call 20; refine (c4 _).mono ?_; rintro r w3 ⟨rfl, hb3⟩; obtain ⟨hc3, hf3⟩ := bcell hb3; have hz3_0 : w.heap.size < w3.heap.size := lt_below hb3 ltg; have hl3_0 := Nat.le_of_lt hz3_0; have hz3_1 : w.heap.size + 1 < w3.heap.size := lt_below hb3 ltg; have hl3_1 := Nat.le_of_lt hz3_1; have hz3_2 : w2.heap.size < w3.heap.size := lt_below hb3 ltg; have hl3_2 := Nat.le_of_lt hz3_2; have hA3 := bnext (w0 := w) bgo hb3; have hs3 := hA3.size; clear hb3)
    | (go_at_call 48; refine (c5 _).mono ?_; rintro r w4 ⟨v4, rfl, hv4, hb4⟩; obtain ⟨hc4, hf4⟩ := bcell hb4; have hz4_0 : w.heap.size < w4.heap.size := lt_below hb4 ltg; have hl4_0 := Nat.le_of_lt hz4_0; have hz4_1 : w.heap.size + 1 < w4.heap.size := lt_below hb4 ltg; have hl4_1 := Nat.le_of_lt hz4_1; have hz4_2 : w2.heap.size < w4.heap.size := lt_below hb4 ltg; have hl4_2 := Nat.le_of_lt hz4_2; have hz4_3 : w3.heap.size < w4.heap.size := lt_below hb4 ltg; have hl4_3 := Nat.le_of_lt hz4_3; have hA4 := bnext (w0 := w) bgo hb4; have hs4 := hA4.size; clear hb4)
    | (go_at_call 21; refine (c6 _ _ _ (hv4.next (below1 _ _)) (nt_oneB (by simp)).nv).mono ?_; rintro r w5 ⟨v5, rfl, hv5, hb5⟩; obtain ⟨hc5, hf5⟩ := bcell hb5; have hz5_0 : w.heap.size < w5.heap.size := lt_below hb5 ltg; have hl5_0 := Nat.le_of_lt hz5_0; have hz5_1 : w.heap.size + 1 < w5.heap.size := lt_below hb5 ltg; have hl5_1 := Nat.le_of_lt hz5_1; have hz5_2 : w2.heap.size < w5.heap.size := lt_below hb5 ltg; have hl5_2 := Nat.le_of_lt hz5_2; have hz5_3 : w3.heap.size < w5.heap.size := lt_below hb5 ltg; have hl5_3 := Nat.le_of_lt hz5_3; have hA5 := bnext (w0 := w) bgo hb5; have hs5 := hA5.size; clear hb5))
  refine wp_tail 4 (by kernel_rfl) (by kernel_rfl) (by kernel_rfl) (fun _ _ d _ _ h => by cases d <;> exact h) fun hne hcell => ?_
  simp only [List.take_succ_cons, List.take_zero, List.drop_succ_cons, List.drop_zero]
  repeat go_big_quiet_step (fail)
  go_big_quiet_step ((go_at_call 23; exact calls_wd _ bk_next (c7 _ _ (hv5.next (Wd.h _)))))
  repeat go_big_quiet_step (fail)
  refine wpQuiet_nil fun w6 hb6 => ?_
  have hv6 := hv5.next hb6
  obtain ⟨hc6, hf6⟩ := bcell hb6; have hz6_0 : w.heap.size < w6.heap.size := lt_below hb6 ltg; have hl6_0 := Nat.le_of_lt hz6_0; have hz6_1 : w.heap.size + 1 < w6.heap.size := lt_below hb6 ltg; have hl6_1 := Nat.le_of_lt hz6_1; have hz6_2 : w2.heap.size < w6.heap.size := lt_below hb6 ltg; have hl6_2 := Nat.le_of_lt hz6_2; have hz6_3 : w3.heap.size < w6.heap.size := lt_below hb6 ltg; have hl6_3 := Nat.le_of_lt hz6_3; have hA6 := bnext (w0 := w) bgo hb6; have hs6 := hA6.size; clear hb6
  go_wp2_with (first
    | (go_at_call 49; refine (cR _ _ hv6).mono ?_; rintro r w7 ⟨g7, q7, p7, b7, rfl, hg7, hv7, hb7⟩; have hne7 : g7 ≠ w2.heap.size := (by omega); obtain ⟨hc7, hf7⟩ := bcell hb7; have hz7_0 : w.heap.size < w7.heap.size := lt_below hb7 ltg; have hl7_0 := Nat.le_of_lt hz7_0; have hz7_1 : w.heap.size + 1 < w7.heap.size := lt_below hb7 ltg; have hl7_1 := Nat.le_of_lt hz7_1; have hz7_2 : w2.heap.size < w7.heap.size := lt_below hb7 ltg; have hl7_2 := Nat.le_of_lt hz7_2; have hz7_3 : w3.heap.size < w7.heap.size := lt_below hb7 ltg; have hl7_3 := Nat.le_of_lt hz7_3; have hA7 := bnext (w0 := w) bgo hb7; have hs7 := hA7.size; clear hb7)
    | (go_at_call 28; refine (c8 _ _ (hv7.updV hne7 ((Upd.refl _ _).set 3 _))).mono ?_; rintro r w8 ⟨rfl, hb8⟩; obtain ⟨hc8, hf8⟩ := bcell hb8; have hz8_0 : w.heap.size < w8.heap.size := lt_below hb8 ltg; have hl8_0 := Nat.le_of_lt hz8_0; have hz8_1 : w.heap.size + 1 < w8.heap.size := lt_below hb8 ltg; have hl8_1 := Nat.le_of_lt hz8_1; have hz8_2 : w2.heap.size < w8.heap.size := lt_below hb8 ltg; have hl8_2 := Nat.le_of_lt hz8_2; have hz8_3 : w3.heap.size < w8.heap.size := lt_below hb8 ltg; have hl8_3 := Nat.le_of_lt hz8_3; have hA8 := bnext (w0 := w) bgo hb8; have hs8 := hA8.size; clear hb8)
    | (go_at_call 46; refine (c9 _).mono ?_; rintro r w9 ⟨rfl, hb9⟩; obtain ⟨hc9, hf9⟩ := bcell hb9; have hz9_0 : w.heap.size < w9.heap.size := lt_below hb9 ltg; have hl9_0 := Nat.le_of_lt hz9_0; have hz9_1 : w.heap.size + 1 < w9.heap.size := lt_below hb9 ltg; have hl9_1 := Nat.le_of_lt hz9_1; have hz9_2 : w2.heap.size < w9.heap.size := lt_below hb9 ltg; have hl9_2 := Nat.le_of_lt hz9_2; have hz9_3 : w3.heap.size < w9.heap.size := lt_below hb9 ltg; have hl9_3 := Nat.le_of_lt hz9_3; have hA9 := bnext (w0 := w) bgo hb9; have hs9 := hA9.size; clear hb9))
  exact bodyPost_ret (v := .tuple #[A4 R, .int .i64 0, .int .i64 0]) (by unfold A4; simp only [results, Tryz.results17]; go_simp) rfl ⟨rfl, bgo⟩)
set_option maxHeartbeats 8000000 in
theorem rnx_a3 (L : Int) (hL : L > pr) (hM : x + 1 > mo) (R : Nat) (E : Int)
    (c6 : ∀ W u v, NV 10 k u W → NV 900 1 v W → Calls Tryz.prog 21 #[u, v] W fun r w' => ∃ a, r = .returned a ∧ NV 950 (k + 1) a w' ∧ Below W.heap.size W w')
    (c7 : ∀ W u, NV 950 (k + 1) u W → Calls Tryz.prog 23 #[u] W fun r w' => r = .returned (.int .i64 L) ∧ Below W.heap.size W w')
    (cR : ∀ W u, NV 950 (k + 1) u W → Calls Tryz.prog 49 #[u, .int .i64 1] W fun r w' => ∃ a q p b, r = .returned (.tuple #[.slice (some ⟨a, 0, none⟩) q p, .bool b]) ∧ W.heap.size ≤ a ∧ NV 950 ((k + 1) / 2) (.slice (some ⟨a, 0, none⟩) q p) w' ∧ Below W.heap.size W w')
    (c8 : ∀ W, Calls Tryz.prog 28 #[.slice none 0 0] W fun r w' => r = .returned (.agg #[.int .u64 0, .int .u64 0, .int .u64 0, .int .u64 0]) ∧ Below W.heap.size W w')
    (c9 : ∀ W, Calls Tryz.prog 46 #[.int .i64 n, .agg #[.int .i64 2, .bool s, .bool false, .int .i64 0, .int .u64 0, .int .u64 0, .int .u64 0, .int .u64 0]] W fun r w' => r = .returned (.tuple #[A4 R, .int .i64 E]) ∧ Below W.heap.size W w') :
    Calls Tryz.prog 17 #[.int .i64 n, A4 Bp, .bool (!s)] w fun r w' => r = .returned (.tuple #[A4 R, .int .i64 0, .int .i64 0]) ∧ Below w.heap.size w w' := by
  subst hc
  have h24 := eq24 (W4 k 0) (W4 k 1) (W4 k 2) (W4 k 3) 0 0 0 0
  rw [W4_none hk, decide_eq_false hk0] at h24
  clear hk0
  have hsm := cell_set_map
  unfold DV A4 at *
  cases s
  all_goals (
  go_enter Tryz.func17, Tryz.ntmps17
  go_wp2_with (first
    | (go_at_call 44; refine (c1 _).mono ?_; rintro r w1 ⟨rfl, hb1⟩; obtain ⟨hc1, hf1⟩ := bcell hb1; have hz1_0 : w.heap.size < w1.heap.size := lt_below hb1 ltg; have hl1_0 := Nat.le_of_lt hz1_0; have hz1_1 : w.heap.size + 1 < w1.heap.size := lt_below hb1 ltg; have hl1_1 := Nat.le_of_lt hz1_1; have hA1 := bnext (w0 := w) bgo hb1; have hs1 := hA1.size; clear hb1)
    | (go_at_call 38; refine (c2 _).mono ?_; rintro r w1b ⟨rfl, rfl⟩)
    | (go_at_call 18; refine (c3 _).mono ?_; rintro r w2 ⟨rfl, hb2⟩; obtain ⟨hc2, hf2⟩ := bcell hb2; have hz2_0 : w.heap.size < w2.heap.size := lt_below hb2 ltg; have hl2_0 := Nat.le_of_lt hz2_0; have hz2_1 : w.heap.size + 1 < w2.heap.size := lt_below hb2 ltg; have hl2_1 := Nat.le_of_lt hz2_1; have hA2 := bnext (w0 := w) bgo hb2; have hs2 := hA2.size; clear hb2)
    | (go_at_call 20; refine (c4 _).mono ?_; rintro r w3 ⟨rfl, hb3⟩; obtain ⟨hc3, hf3⟩ := bcell hb3; have hz3_0 : w.heap.size < w3.heap.size := lt_below hb3 ltg; have hl3_0 := Nat.le_of_lt hz3_0; have hz3_1 : w.heap.size + 1 < w3.heap.size := lt_below hb3 ltg; have hl3_1 := Nat.le_of_lt hz3_1; have hz3_2 : w2.heap.size < w3.heap.size := lt_below hb3 ltg; have hl3_2 := Nat.le_of_lt hz3_2; have hA3 := bnext (w0 := w) bgo hb3; have hs3 := hA3.size; clear hb3)
    | (go_at_call 48; refine (c5 _).mono ?_; rintro r w4 ⟨v4, rfl, hv4, hb4⟩; obtain ⟨hc4, hf4⟩ := bcell hb4; have hz4_0 : w.heap.size < w4.heap.size := lt_below hb4 ltg; have hl4_0 := Nat.le_of_lt hz4_0; have hz4_1 : w.heap.size + 1 < w4.heap.size := lt_below hb4 ltg; have hl4_1 := Nat.le_of_lt hz4_1; have hz4_2 : w2.heap.size < w4.heap.size := lt_below hb4 ltg; have hl4_2 := Nat.le_of_lt hz4_2; have hz4_3 : w3.heap.size < w4.heap.size := lt_below hb4 ltg; have hl4_3 := Nat.le_of_lt hz4_3; have hA4 := bnext (w0 := w) bgo hb4; have hs4 := hA4.size; clear hb4)
    | (go_at_call 21; refine (c6 _ _ _ (hv4.next (below1 _ _)) (nt_oneB (by simp)).nv).mono ?_; rintro r w5 ⟨v5, rfl, hv5, hb5⟩; obtain ⟨hc5, hf5⟩ := bcell hb5; have hz5_0 : w.heap.size < w5.heap.size := lt_below hb5 ltg; have hl5_0 := Nat.le_of_lt hz5_0; have hz5_1 : w.heap.size + 1 < w5.heap.size := lt_below hb5 ltg; have hl5_1 := Nat.le_of_lt hz5_1; have hz5_2 : w2.heap.size < w5.heap.size := lt_below hb5 ltg; have hl5_2 := Nat.le_of_lt hz5_2; have hz5_3 : w3.heap.size < w5.heap.size := lt_below hb5 ltg; have hl5_3 := Nat.le_of_lt hz5_3; have hA5 := bnext (w0 := w) bgo hb5; have hs5 := hA5.size; clear hb5))
  refine wp_tail 4 (by kernel_rfl) (by kernel_rfl) (by kernel_rfl) (fun _ _ d _ _ h => by cases d <;> exact h) fun hne hcell => ?_
  simp only [List.take_succ_cons, List.take_zero, List.drop_succ_cons, List.drop_zero]
  repeat go_big_quiet_step (fail)
  go_big_quiet_step ((go_at_call 23; exact calls_wd _ bk_next (c7 _ _ (hv5.next (Wd.h _)))))
  repeat go_big_quiet_step (fail)
  refine wpQuiet_nil fun w6 hb6 => ?_
  have hv6 := hv5.next hb6
  obtain ⟨hc6, hf6⟩ := bcell hb6; have hz6_0 : w.heap.size < w6.heap.size := lt_below hb6 ltg; have hl6_0 := Nat.le_of_lt hz6_0; have hz6_1 : w.heap.size + 1 < w6.heap.size := lt_below hb6 ltg; have hl6_1 := Nat.le_of_lt hz6_1; have hz6_2 : w2.heap.size < w6.heap.size := lt_below hb6 ltg; have hl6_2 := Nat.le_of_lt hz6_2; have hz6_3 : w3.heap.size < w6.heap.size := lt_below hb6 ltg; have hl6_3 := Nat.le_of_lt hz6_3; have hA6 := bnext (w0 := w) bgo hb6; have hs6 := hA6.size; clear hb6
  go_wp2_with (first
    | (go_at_call 49; refine (cR _ _ hv6).mono ?_; rintro r w7 ⟨g7, q7, p7, b7, rfl, hg7, hv7, hb7⟩; have hne7 : g7 ≠ w2.heap.size := (by omega); obtain ⟨hc7, hf7⟩ := bcell hb7; have hz7_0 : w.heap.size < w7.heap.size := lt_below hb7 ltg; have hl7_0 := Nat.le_of_lt hz7_0; have hz7_1 : w.heap.size + 1 < w7.heap.size := lt_below hb7 ltg; have hl7_1 := Nat.le_of_lt hz7_1; have hz7_2 : w2.heap.size < w7.heap.size := lt_below hb7 ltg; have hl7_2 := Nat.le_of_lt hz7_2; have hz7_3 : w3.heap.size < w7.heap.size := lt_below hb7 ltg; have hl7_3 := Nat.le_of_lt hz7_3; have hA7 := bnext (w0 := w) bgo hb7; have hs7 := hA7.size; clear hb7)
    | (go_at_call 28; refine (c8 _).mono ?_; rintro r w8 ⟨rfl, hb8⟩; obtain ⟨hc8, hf8⟩ := bcell hb8; have hz8_0 : w.heap.size < w8.heap.size := lt_below hb8 ltg; have hl8_0 := Nat.le_of_lt hz8_0; have hz8_1 : w.heap.size + 1 < w8.heap.size := lt_below hb8 ltg; have hl8_1 := Nat.le_of_lt hz8_1; have hz8_2 : w2.heap.size < w8.heap.size := lt_below hb8 ltg; have hl8_2 := Nat.le_of_lt hz8_2; have hz8_3 : w3.heap.size < w8.heap.size := lt_below hb8 ltg; have hl8_3 := Nat.le_of_lt hz8_3; have hA8 := bnext (w0 := w) bgo hb8; have hs8 := hA8.size; clear hb8)
    | (go_at_call 46; refine (c9 _).mono ?_; rintro r w9 ⟨rfl, hb9⟩; obtain ⟨hc9, hf9⟩ := bcell hb9; have hz9_0 : w.heap.size < w9.heap.size := lt_below hb9 ltg; have hl9_0 := Nat.le_of_lt hz9_0; have hz9_1 : w.heap.size + 1 < w9.heap.size := lt_below hb9 ltg; have hl9_1 := Nat.le_of_lt hz9_1; have hz9_2 : w2.heap.size < w9.heap.size := lt_below hb9 ltg; have hl9_2 := Nat.le_of_lt hz9_2; have hz9_3 : w3.heap.size < w9.heap.size := lt_below hb9 ltg; have hl9_3 := Nat.le_of_lt hz9_3; have hA9 := bnext (w0 := w) bgo hb9; have hs9 := hA9.size; clear hb9))
  exact bodyPost_ret (v := .tuple #[A4 R, .int .i64 0, .int .i64 0]) (by unfold A4; simp only [results, Tryz.results17]; go_simp) rfl ⟨rfl, bgo⟩)
set_option maxHeartbeats 8000000 in
theorem rnx_d2 (L : Int) (hL : ¬ L < pr) (R : Nat) (E : Int)
    (c6 : ∀ W u v, NV 10 k u W → NV 900 1 v W → Calls Tryz.prog 50 #[u, v] W fun r w' => ∃ a, r = .returned a ∧ NV 950 (k - 1) a w' ∧ Below W.heap.size W w')
    (c7 : ∀ W u, NV 950 (k - 1) u W → Calls Tryz.prog 23 #[u] W fun r w' => r = .returned (.int .i64 L) ∧ Below W.heap.size W w')
    (c8 : ∀ W u, NV 950 (k - 1) u W → Calls Tryz.prog 28 #[u] W fun r w' => r = .returned (A4 (k - 1)) ∧ Below W.heap.size W w')
    (c9 : ∀ W, Calls Tryz.prog 46 #[.int .i64 n, DV 1 s g (x) (k - 1)] W fun r w' => r = .returned (.tuple #[A4 R, .int .i64 E]) ∧ Below W.heap.size W w') :
    Calls Tryz.prog 17 #[.int .i64 n, A4 Bp, .bool s] w fun r w' => r = .returned (.tuple #[A4 R, .int .i64 0, .int .i64 0]) ∧ Below w.heap.size w w' := by
  subst hc
  have h24 := eq24 (W4 k 0) (W4 k 1) (W4 k 2) (W4 k 3) 0 0 0 0
  rw [W4_none hk, decide_eq_false hk0] at h24
  clear hk0
  have hsm := cell_set_map
  unfold DV A4 at *
  cases s
  all_goals (
  go_enter Tryz.func17, Tryz.ntmps17
  go_wp2_with (first
    | (go_at_call 44; refine (c1 _).mono ?_; rintro r w1 ⟨rfl, hb1⟩; obtain ⟨hc1, hf1⟩ := bcell hb1; have hz1_0 : w.heap.size < w1.heap.size := lt_below hb1 ltg; have hl1_0 := Nat.le_of_lt hz1_0; have hz1_1 : w.heap.size + 1 < w1.heap.size := lt_below hb1 ltg; have hl1_1 := Nat.le_of_lt hz1_1; have hA1 := bnext (w0 := w) bgo hb1; have hs1 := hA1.size; clear hb1)
    | (go_at_call 38; refine (c2 _).mono ?_; rintro r w1b ⟨rfl, rfl⟩)
    | (go_at_call 18; refine (c3 _).mono ?_; rintro r w2 ⟨rfl, hb2⟩; obtain ⟨hc2, hf2⟩ := bcell hb2; have hz2_0 : w.heap.size < w2.heap.size := lt_below hb2 ltg; have hl2_0 := Nat.le_of_lt hz2_0; have hz2_1 : w.heap.size + 1 < w2.heap.size := lt_below hb2 ltg; have hl2_1 := Nat.le_of_lt hz2_1; have hA2 := bnext (w0 := w) bgo hb2; have hs2 := hA2.size; clear hb2)
    | (go_at_call 20; refine (c4 _).mono ?_; rintro r w3 ⟨rfl, hb3⟩; obtain ⟨hc3, hf3⟩ := bcell hb3; have hz3_0 : w.heap.size < w3.heap.size := lt_below hb3 ltg; have hl3_0 := Nat.le_of_lt hz3_0; have hz3_1 : w.heap.size + 1 < w3.heap.size := lt_below hb3 ltg; have hl3_1 := Nat.le_of_lt hz3_1; have hz3_2 : w2.heap.size < w3.heap.size := lt_below hb3 ltg; have hl3_2 := Nat.le_of_lt hz3_2; have hA3 := bnext (w0 := w) bgo hb3; have hs3 := hA3.size; clear hb3)
    | (go_at_call 48; refine (c5 _).mono ?_; rintro r w4 ⟨v4, rfl, hv4, hb4⟩; obtain ⟨hc4, hf4⟩ := bcell hb4; have hz4_0 : w.heap.size < w4.heap.size := lt_below hb4 ltg; have hl4_0 := Nat.le_of_lt hz4_0; have hz4_1 : w.heap.size + 1 < w4.heap.size := lt_below hb4 ltg; have hl4_1 := Nat.le_of_lt hz4_1; have hz4_2 : w2.heap.size < w4.heap.size := lt_below hb4 ltg; have hl4_2 := Nat.le_of_lt hz4_2; have hz4_3 : w3.heap.size < w4.heap.size := lt_below hb4 ltg; have hl4_3 := Nat.le_of_lt hz4_3; have hA4 := bnext (w0 := w) bgo hb4; have hs4 := hA4.size; clear hb4)
    | (go_at_call 50; refine (c6 _ _ _ (hv4.next (below1 _ _)) (nt_oneB (by simp)).nv).mono ?_; rintro r w5 ⟨v5, rfl, hv5, hb5⟩; obtain ⟨hc5, hf5⟩ := bcell hb5; have hz5_0 : w.heap.size < w5.heap.size := lt_below hb5 ltg; have hl5_0 := Nat.le_of_lt hz5_0; have hz5_1 : w.heap.size + 1 < w5.heap.size := lt_below hb5 ltg; have hl5_1 := Nat.le_of_lt hz5_1; have hz5_2 : w2.heap.size < w5.heap.size := lt_below hb5 ltg; have hl5_2 := Nat.le_of_lt hz5_2; have hz5_3 : w3.heap.size < w5.heap.size := lt_below hb5 ltg; have hl5_3 := Nat.le_of_lt hz5_3; have hA5 := bnext (w0 := w) bgo hb5; have hs5 := hA5.size; clear hb5))
  have hLd : decide (L < pr) = false := decide_eq_false (by omega)
  refine wp_tail 11 (by kernel_rfl) (by kernel_rfl) (by kernel_rfl) (fun _ _ d _ _ h => by cases d <;> exact h) fun hne hcell => ?_
  simp only [List.take_succ_cons, List.take_zero, List.drop_succ_cons, List.drop_zero]
  repeat go_big_quiet_step (fail)
  go_big_quiet_step ((go_at_call 23; exact calls_wd _ bk_next (c7 _ _ (hv5.next (Wd.h _)))))
  repeat go_big_quiet_step (fail)
  refine wpQuiet_nil fun w6 hb6 => ?_
  have hv6 := hv5.next hb6
  obtain ⟨hc6, hf6⟩ := bcell hb6; have hz6_0 : w.heap.size < w6.heap.size := lt_below hb6 ltg; have hl6_0 := Nat.le_of_lt hz6_0; have hz6_1 : w.heap.size + 1 < w6.heap.size := lt_below hb6 ltg; have hl6_1 := Nat.le_of_lt hz6_1; have hz6_2 : w2.heap.size < w6.heap.size := lt_below hb6 ltg; have hl6_2 := Nat.le_of_lt hz6_2; have hz6_3 : w3.heap.size < w6.heap.size := lt_below hb6 ltg; have hl6_3 := Nat.le_of_lt hz6_3; have hA6 := bnext (w0 := w) bgo hb6; have hs6 := hA6.size; clear hb6
  go_wp2_with (first
    | (go_at_call 28; refine (c8 _ _ hv6).mono ?_; rintro r w8 ⟨rfl, hb8⟩; obtain ⟨hc8, hf8⟩ := bcell hb8; have hz8_0 : w.heap.size < w8.heap.size := lt_below hb8 ltg; have hl8_0 := Nat.le_of_lt hz8_0; have hz8_1 : w.heap.size + 1 < w8.heap.size := lt_below hb8 ltg; have hl8_1 := Nat.le_of_lt hz8_1; have hz8_2 : w2.heap.size < w8.heap.size := lt_below hb8 ltg; have hl8_2 := Nat.le_of_lt hz8_2; have hz8_3 : w3.heap.size < w8.heap.size := lt_below hb8 ltg; have hl8_3 := Nat.le_of_lt hz8_3; have hA8 := bnext (w0 := w) bgo hb8; have hs8 := hA8.size; clear hb8)
    | (go_at_call 46; refine (c9 _).mono ?_; rintro r w9 ⟨rfl, hb9⟩; obtain ⟨hc9, hf9⟩ := bcell hb9; have hz9_0 : w.heap.size < w9.heap.size := lt_below hb9 ltg; have hl9_0 := Nat.le_of_lt hz9_0; have hz9_1 : w.heap.size + 1 < w9.heap.size := lt_below hb9 ltg; have hl9_1 := Nat.le_of_lt hz9_1; have hz9_2 : w2.heap.size < w9.heap.size := lt_below hb9 ltg; have hl9_2 := Nat.le_of_lt hz9_2; have hz9_3 : w3.heap.size < w9.heap.size := lt_below hb9 ltg; have hl9_3 := Nat.le_of_lt hz9_3; have hA9 := bnext (w0 := w) bgo hb9; have hs9 := hA9.size; clear hb9))
  exact bodyPost_ret (v := .tuple #[A4 R, .int .i64 0, .int .i64 0]) (by unfold A4; simp only [results, Tryz.results17]; go_simp) rfl ⟨rfl, bgo⟩)
set_option maxHeartbeats 8000000 in
theorem rnx_d3 (L : Int) (hL : L < pr) (hM : ¬ x > le) (R : Nat) (E : Int)
    (c6 : ∀ W u v, NV 10 k u W → NV 900 1 v W → Calls Tryz.prog 50 #[u, v] W fun r w' => ∃ a, r = .returned a ∧ NV 950 (k - 1) a w' ∧ Below W.heap.size W w')
    (c7 : ∀ W u, NV 950 (k - 1) u W → Calls Tryz.prog 23 #[u] W fun r w' => r = .returned (.int .i64 L) ∧ Below W.heap.size W w')
    (c8 : ∀ W u, NV 950 (k - 1) u W → Calls Tryz.prog 28 #[u] W fun r w' => r = .returned (A4 (k - 1)) ∧ Below W.heap.size W w')
    (c9 : ∀ W, Calls Tryz.prog 46 #[.int .i64 n, DV 1 s g (x) (k - 1)] W fun r w' => r = .returned (.tuple #[A4 R, .int .i64 E]) ∧ Below W.heap.size W w') :
    Calls Tryz.prog 17 #[.int .i64 n, A4 Bp, .bool s] w fun r w' => r = .returned (.tuple #[A4 R, .int .i64 0, .int .i64 0]) ∧ Below w.heap.size w w' := by
  subst hc
  have h24 := eq24 (W4 k 0) (W4 k 1) (W4 k 2) (W4 k 3) 0 0 0 0
  rw [W4_none hk, decide_eq_false hk0] at h24
  clear hk0
  have hsm := cell_set_map
  unfold DV A4 at *
  cases s
  all_goals (
  go_enter Tryz.func17, Tryz.ntmps17
  go_wp2_with (first
    | (go_at_call 44; refine (c1 _).mono ?_; rintro r w1 ⟨rfl, hb1⟩; obtain ⟨hc1, hf1⟩ := bcell hb1; have hz1_0 : w.heap.size < w1.heap.size := lt_below hb1 ltg; have hl1_0 := Nat.le_of_lt hz1_0; have hz1_1 : w.heap.size + 1 < w1.heap.size := lt_below hb1 ltg; have hl1_1 := Nat.le_of_lt hz1_1; have hA1 := bnext (w0 := w) bgo hb1; have hs1 := hA1.size; clear hb1)
    | (go_at_call 38; refine (c2 _).mono ?_; rintro r w1b ⟨rfl, rfl⟩)
    | (go_at_call 18; refine (c3 _).mono ?_; rintro r w2 ⟨rfl, hb2⟩; obtain ⟨hc2, hf2⟩ := bcell hb2; have hz2_0 : w.heap.size < w2.heap.size := lt_below hb2 ltg; have hl2_0 := Nat.le_of_lt hz2_0; have hz2_1 : w.heap.size + 1 < w2.heap.size := lt_below hb2 ltg; have hl2_1 := Nat.le_of_lt hz2_1; have hA2 := bnext (w0 := w) bgo hb2; have hs2 := hA2.size; clear hb2)
    | (go_at_call 20; refine (c4 _).mono ?_; rintro r w3 ⟨rfl, hb3⟩; obtain ⟨hc3, hf3⟩ := bcell hb3; have hz3_0 : w.heap.size < w3.heap.size := lt_below hb3 ltg; have hl3_0 := Nat.le_of_lt hz3_0; have hz3_1 : w.heap.size + 1 < w3.heap.size := lt_below hb3 ltg; have hl3_1 := Nat.le_of_lt hz3_1; have hz3_2 : w2.heap.size < w3.heap.size := lt_below hb3 ltg; have hl3_2 := Nat.le_of_lt hz3_2; have hA3 := bnext (w0 := w) bgo hb3; have hs3 := hA3.size; clear hb3)
    | (go_at_call 48; refine (c5 _).mono ?_; rintro r w4 ⟨v4, rfl, hv4, hb4⟩; obtain ⟨hc4, hf4⟩ := bcell hb4; have hz4_0 : w.heap.size < w4.heap.size := lt_below hb4 ltg; have hl4_0 := Nat.le_of_lt hz4_0; have hz4_1 : w.heap.size + 1 < w4.heap.size := lt_below hb4 ltg; have hl4_1 := Nat.le_of_lt hz4_1; have hz4_2 : w2.heap.size < w4.heap.size := lt_below hb4 ltg; have hl4_2 := Nat.le_of_lt hz4_2; have hz4_3 : w3.heap.size < w4.heap.size := lt_below hb4 ltg; have hl4_3 := Nat.le_of_lt hz4_3; have hA4 := bnext (w0 := w) bgo hb4; have hs4 := hA4.size; clear hb4)
    | (go_at_call 50; refine (c6 _ _ _ (hv4.next (below1 _ _)) (nt_oneB (by simp)).nv).mono ?_; rintro r w5 ⟨v5, rfl, hv5, hb5⟩; obtain ⟨hc5, hf5⟩ := bcell hb5; have hz5_0 : w.heap.size < w5.heap.size := lt_below hb5 ltg; have hl5_0 := Nat.le_of_lt hz5_0; have hz5_1 : w.heap.size + 1 < w5.heap.size := lt_below hb5 ltg; have hl5_1 := Nat.le_of_lt hz5_1; have hz5_2 : w2.heap.size < w5.heap.size := lt_below hb5 ltg; have hl5_2 := Nat.le_of_lt hz5_2; have hz5_3 : w3.heap.size < w5.heap.size := lt_below hb5 ltg; have hl5_3 := Nat.le_of_lt hz5_3; have hA5 := bnext (w0 := w) bgo hb5; have hs5 := hA5.size; clear hb5))
  have hLd : decide (L < pr) = true := decide_eq_true (by omega)
  have hMd : decide (le < x) = false := decide_eq_false (by omega)
  refine wp_tail 11 (by kernel_rfl) (by kernel_rfl) (by kernel_rfl) (fun _ _ d _ _ h => by cases d <;> exact h) fun hne hcell => ?_
  simp only [List.take_succ_cons, List.take_zero, List.drop_succ_cons, List.drop_zero]
  repeat go_big_quiet_step (fail)
  go_big_quiet_step ((go_at_call 23; exact calls_wd _ bk_next (c7 _ _ (hv5.next (Wd.h _)))))
  repeat go_big_quiet_step (fail)
  refine wpQuiet_nil fun w6 hb6 => ?_
  have hv6 := hv5.next hb6
  obtain ⟨hc6, hf6⟩ := bcell hb6; have hz6_0 : w.heap.size < w6.heap.size := lt_below hb6 ltg; have hl6_0 := Nat.le_of_lt hz6_0; have hz6_1 : w.heap.size + 1 < w6.heap.size := lt_below hb6 ltg; have hl6_1 := Nat.le_of_lt hz6_1; have hz6_2 : w2.heap.size < w6.heap.size := lt_below hb6 ltg; have hl6_2 := Nat.le_of_lt hz6_2; have hz6_3 : w3.heap.size < w6.heap.size := lt_below hb6 ltg; have hl6_3 := Nat.le_of_lt hz6_3; have hA6 := bnext (w0 := w) bgo hb6; have hs6 := hA6.size; clear hb6
  go_wp2_with (first
    | (go_at_call 28; refine (c8 _ _ hv6).mono ?_; rintro r w8 ⟨rfl, hb8⟩; obtain ⟨hc8, hf8⟩ := bcell hb8; have hz8_0 : w.heap.size < w8.heap.size := lt_below hb8 ltg; have hl8_0 := Nat.le_of_lt hz8_0; have hz8_1 : w.heap.size + 1 < w8.heap.size := lt_below hb8 ltg; have hl8_1 := Nat.le_of_lt hz8_1; have hz8_2 : w2.heap.size < w8.heap.size := lt_below hb8 ltg; have hl8_2 := Nat.le_of_lt hz8_2; have hz8_3 : w3.heap.size < w8.heap.size := lt_below hb8 ltg; have hl8_3 := Nat.le_of_lt hz8_3; have hA8 := bnext (w0 := w) bgo hb8; have hs8 := hA8.size; clear hb8)
    | (go_at_call 46; refine (c9 _).mono ?_; rintro r w9 ⟨rfl, hb9⟩; obtain ⟨hc9, hf9⟩ := bcell hb9; have hz9_0 : w.heap.size < w9.heap.size := lt_below hb9 ltg; have hl9_0 := Nat.le_of_lt hz9_0; have hz9_1 : w.heap.size + 1 < w9.heap.size := lt_below hb9 ltg; have hl9_1 := Nat.le_of_lt hz9_1; have hz9_2 : w2.heap.size < w9.heap.size := lt_below hb9 ltg; have hl9_2 := Nat.le_of_lt hz9_2; have hz9_3 : w3.heap.size < w9.heap.size := lt_below hb9 ltg; have hl9_3 := Nat.le_of_lt hz9_3; have hA9 := bnext (w0 := w) bgo hb9; have hs9 := hA9.size; clear hb9))
  exact bodyPost_ret (v := .tuple #[A4 R, .int .i64 0, .int .i64 0]) (by unfold A4; simp only [results, Tryz.results17]; go_simp) rfl ⟨rfl, bgo⟩)
set_option maxHeartbeats 8000000 in
theorem rnx_d1 (L : Int) (hL : L < pr) (hM : x > le) (R : Nat) (E : Int)
    (c6 : ∀ W u v, NV 10 k u W → NV 900 1 v W → Calls Tryz.prog 50 #[u, v] W fun r w' => ∃ a, r = .returned a ∧ NV 950 (k - 1) a w' ∧ Below W.heap.size W w')
    (c7 : ∀ W u, NV 950 (k - 1) u W → Calls Tryz.prog 23 #[u] W fun r w' => r = .returned (.int .i64 L) ∧ Below W.heap.size W w')
    (cS : ∀ W u, NV 950 (k - 1) u W → Calls Tryz.prog 22 #[u, .int .i64 1] W fun r w' => ∃ a, r = .returned a ∧ NV 1100 ((k - 1) * 2) a w' ∧ Below W.heap.size W w')
    (cP : ∀ W u v, NV 1100 ((k - 1) * 2) u W → NV 900 1 v W → Calls Tryz.prog 21 #[u, v] W fun r w' => ∃ a q p, r = .returned (.slice (some ⟨a, 0, none⟩) q p) ∧ W.heap.size ≤ a ∧ NV 2100 ((k - 1) * 2 + 1) (.slice (some ⟨a, 0, none⟩) q p) w' ∧ Below W.heap.size W w')
    (c8 : ∀ W u, NV 2100 ((k - 1) * 2 + 1) u W → Calls Tryz.prog 28 #[u] W fun r w' => r = .returned (A4 ((k - 1) * 2 + 1)) ∧ Below W.heap.size W w')
    (c9 : ∀ W, Calls Tryz.prog 46 #[.int .i64 n, DV 1 s g (x - 1) ((k - 1) * 2 + 1)] W fun r w' => r = .returned (.tuple #[A4 R, .int .i64 E]) ∧ Below W.heap.size W w') :
    Calls Tryz.prog 17 #[.int .i64 n, A4 Bp, .bool s] w fun r w' => r = .returned (.tuple #[A4 R, .int .i64 0, .int .i64 0]) ∧ Below w.heap.size w w' := by
  subst hc
  have h24 := eq24 (W4 k 0) (W4 k 1) (W4 k 2) (W4 k 3) 0 0 0 0
  rw [W4_none hk, decide_eq_false hk0] at h24
  clear hk0
  have hsm := cell_set_map
  unfold DV A4 at *
  cases s
  all_goals (
  go_enter Tryz.func17, Tryz.ntmps17
  go_wp2_with (first
    | (go_at_call 44; refine (c1 _).mono ?_; rintro r w1 ⟨rfl, hb1⟩; obtain ⟨hc1, hf1⟩ := bcell hb1; have hz1_0 : w.heap.size < w1.heap.size := lt_below hb1 ltg; have hl1_0 := Nat.le_of_lt hz1_0; have hz1_1 : w.heap.size + 1 < w1.heap.size := lt_below hb1 ltg; have hl1_1 := Nat.le_of_lt hz1_1; have hA1 := bnext (w0 := w) bgo hb1; have hs1 := hA1.size; clear hb1)
    | (go_at_call 38; refine (c2 _).mono ?_; rintro r w1b ⟨rfl, rfl⟩)
    | (go_at_call 18; refine (c3 _).mono ?_; rintro r w2 ⟨rfl, hb2⟩; obtain ⟨hc2, hf2⟩ := bcell hb2; have hz2_0 : w.heap.size < w2.heap.size := lt_below hb2 ltg; have hl2_0 := Nat.le_of_lt hz2_0; have hz2_1 : w.heap.size + 1 < w2.heap.size := lt_below hb2 ltg; have hl2_1 := Nat.le_of_lt hz2_1; have hA2 := bnext (w0 := w) bgo hb2; have hs2 := hA2.size; clear hb2)
    | (go_at_call 20; refine (c4 _).mono ?_; rintro r w3 ⟨rfl, hb3⟩; obtain ⟨hc3, hf3⟩ := bcell hb3; have hz3_0 : w.heap.size < w3.heap.size := lt_below hb3 ltg; have hl3_0 := Nat.le_of_lt hz3_0; have hz3_1 : w.heap.size + 1 < w3.heap.size := lt_below hb3 ltg; have hl3_1 := Nat.le_of_lt hz3_1; have hz3_2 : w2.heap.size < w3.heap.size := lt_below hb3 ltg; have hl3_2 := Nat.le_of_lt hz3_2; have hA3 := bnext (w0 := w) bgo hb3; have hs3 := hA3.size; clear hb3)
    | (go_at_call 48; refine (c5 _).mono ?_; rintro r w4 ⟨v4, rfl, hv4, hb4⟩; obtain ⟨hc4, hf4⟩ := bcell hb4; have hz4_0 : w.heap.size < w4.heap.size := lt_below hb4 ltg; have hl4_0 := Nat.le_of_lt hz4_0; have hz4_1 : w.heap.size + 1 < w4.heap.size := lt_below hb4 ltg; have hl4_1 := Nat.le_of_lt hz4_1; have hz4_2 : w2.heap.size < w4.heap.size := lt_below hb4 ltg; have hl4_2 := Nat.le_of_lt hz4_2; have hz4_3 : w3.heap.size < w4.heap.size := lt_below hb4 ltg; have hl4_3 := Nat.le_of_lt hz4_3; have hA4 := bnext (w0 := w) bgo hb4; have hs4 := hA4.size; clear hb4)
    | (go_at_call 50; refine (c6 _ _ _ (hv4.next (below1 _ _)) (nt_oneB (by simp)).nv).mono ?_; rintro r w5 ⟨v5, rfl, hv5, hb5⟩; obtain ⟨hc5, hf5⟩ := bcell hb5; have hz5_0 : w.heap.size < w5.heap.size := lt_below hb5 ltg; have hl5_0 := Nat.le_of_lt hz5_0; have hz5_1 : w.heap.size + 1 < w5.heap.size := lt_below hb5 ltg; have hl5_1 := Nat.le_of_lt hz5_1; have hz5_2 : w2.heap.size < w5.heap.size := lt_below hb5 ltg; have hl5_2 := Nat.le_of_lt hz5_2; have hz5_3 : w3.heap.size < w5.heap.size := lt_below hb5 ltg; have hl5_3 := Nat.le_of_lt hz5_3; have hA5 := bnext (w0 := w) bgo hb5; have hs5 := hA5.size; clear hb5))
  have hLd : decide (L < pr) = true := decide_eq_true (by omega)
  have hMd : decide (le < x) = true := decide_eq_true (by omega)
  refine wp_tail 11 (by kernel_rfl) (by kernel_rfl) (by kernel_rfl) (fun _ _ d _ _ h => by cases d <;> exact h) fun hne hcell => ?_
  simp only [List.take_succ_cons, List.take_zero, List.drop_succ_cons, List.drop_zero]
  repeat go_big_quiet_step (fail)
  go_big_quiet_step ((go_at_call 23; exact calls_wd _ bk_next (c7 _ _ (hv5.next (Wd.h _)))))
  repeat go_big_quiet_step (fail)
  refine wpQuiet_nil fun w6 hb6 => ?_
  have hv6 := hv5.next hb6
  obtain ⟨hc6, hf6⟩ := bcell hb6; have hz6_0 : w.heap.size < w6.heap.size := lt_below hb6 ltg; have hl6_0 := Nat.le_of_lt hz6_0; have hz6_1 : w.heap.size + 1 < w6.heap.size := lt_below hb6 ltg; have hl6_1 := Nat.le_of_lt hz6_1; have hz6_2 : w2.heap.size < w6.heap.size := lt_below hb6 ltg; have hl6_2 := Nat.le_of_lt hz6_2; have hz6_3 : w3.heap.size < w6.heap.size := lt_below hb6 ltg; have hl6_3 := Nat.le_of_lt hz6_3; have hA6 := bnext (w0 := w) bgo hb6; have hs6 := hA6.size; clear hb6
  go_wp2_with (first
    | (go_at_call 22; refine (cS _ _ hv6).mono ?_; rintro r w7 ⟨v7, rfl, hv7, hb7⟩; obtain ⟨hc7, hf7⟩ := bcell hb7; have hz7_0 : w.heap.size < w7.heap.size := lt_below hb7 ltg; have hl7_0 := Nat.le_of_lt hz7_0; have hz7_1 : w.heap.size + 1 < w7.heap.size := lt_below hb7 ltg; have hl7_1 := Nat.le_of_lt hz7_1; have hz7_2 : w2.heap.size < w7.heap.size := lt_below hb7 ltg; have hl7_2 := Nat.le_of_lt hz7_2; have hz7_3 : w3.heap.size < w7.heap.size := lt_below hb7 ltg; have hl7_3 := Nat.le_of_lt hz7_3; have hA7 := bnext (w0 := w) bgo hb7; have hs7 := hA7.size; clear hb7)
    | (go_at_call 21; refine (cP _ _ _ (hv7.next (below1 _ _)) (nt_oneB (by simp)).nv).mono ?_; rintro r w7b ⟨g7, q7, p7, rfl, hg7, hv7b, hb7b⟩; have hg7' : w7.heap.size ≤ g7 := Nat.le_trans (by simp) hg7; have hne7 : g7 ≠ w2.heap.size := (by omega); clear hg7; obtain ⟨hc7b, hf7b⟩ := bcell hb7b; have hz7b_0 : w.heap.size < w7b.heap.size := lt_below hb7b ltg; have hl7b_0 := Nat.le_of_lt hz7b_0; have hz7b_1 : w.heap.size + 1 < w7b.heap.size := lt_below hb7b ltg; have hl7b_1 := Nat.le_of_lt hz7b_1; have hz7b_2 : w2.heap.size < w7b.heap.size := lt_below hb7b ltg; have hl7b_2 := Nat.le_of_lt hz7b_2; have hz7b_3 : w3.heap.size < w7b.heap.size := lt_below hb7b ltg; have hl7b_3 := Nat.le_of_lt hz7b_3; have hA7b := bnext (w0 := w) bgo hb7b; have hs7b := hA7b.size; clear hb7b)
    | (go_at_call 28; refine (c8 _ _ (hv7b.updV hne7 ((Upd.refl _ _).set 3 _))).mono ?_; rintro r w8 ⟨rfl, hb8⟩; obtain ⟨hc8, hf8⟩ := bcell hb8; have hz8_0 : w.heap.size < w8.heap.size := lt_below hb8 ltg; have hl8_0 := Nat.le_of_lt hz8_0; have hz8_1 : w.heap.size + 1 < w8.heap.size := lt_below hb8 ltg; have hl8_1 := Nat.le_of_lt hz8_1; have hz8_2 : w2.heap.size < w8.heap.size := lt_below hb8 ltg; have hl8_2 := Nat.le_of_lt hz8_2; have hz8_3 : w3.heap.size < w8.heap.size := lt_below hb8 ltg; have hl8_3 := Nat.le_of_lt hz8_3; have hA8 := bnext (w0 := w) bgo hb8; have hs8 := hA8.size; clear hb8)
    | (go_at_call 46; refine (c9 _).mono ?_; rintro r w9 ⟨rfl, hb9⟩; obtain ⟨hc9, hf9⟩ := bcell hb9; have hz9_0 : w.heap.size < w9.heap.size := lt_below hb9 ltg; have hl9_0 := Nat.le_of_lt hz9_0; have hz9_1 : w.heap.size + 1 < w9.heap.size := lt_below hb9 ltg; have hl9_1 := Nat.le_of_lt hz9_1; have hz9_2 : w2.heap.size < w9.heap.size := lt_below hb9 ltg; have hl9_2 := Nat.le_of_lt hz9_2; have hz9_3 : w3.heap.size < w9.heap.size := lt_below hb9 ltg; have hl9_3 := Nat.le_of_lt hz9_3; have hA9 := bnext (w0 := w) bgo hb9; have hs9 := hA9.size; clear hb9))
  exact bodyPost_ret (v := .tuple #[A4 R, .int .i64 0, .int .i64 0]) (by unfold A4; simp only [results, Tryz.results17]; go_simp) rfl ⟨rfl, bgo⟩)
end
end
section
/-- the neighbour's pattern, of what is no NaN -/
def nxP (n : Int) (B : Nat) (up : Bool) : Nat :=
  if (unD n B).c = 1 ∧ (unD n B).k = 0 then 1 + sgN n (!up)
  else if (unD n B).s = up then B - 1 else if (unD n B).c = 2 then B else B + 1
def nxV (n : Int) (B : Nat) (up : Bool) : Nat := if goodN n B then (if (unD n B).c = 3 then quV n B else nxP n B up) else 0
def nxF (n : Int) (B : Nat) : Int := if goodN n B ∧ (unD n B).c = 3 ∧ (unD n B).g = true then 1 else 0
def nxE (n : Int) (B : Nat) : Int := if okN n ∧ B < 2 ^ (widthN n).toNat then (if binN n then 0 else 6) else 1
section
variable {n : Int} (hb : binN n) {s : Bool} {x : Int} {k : Nat} (h : isD (fN n) (leastN n) (mostN n) ⟨1, s, false, x, k⟩)
include hb h
theorem nx_a1 (hL : ¬ ((bl (k + 1) : Nat) : Int) > (fN n : Int) + 1) : pkV n ⟨1, s, false, x, k + 1⟩ = pkV n ⟨1, s, false, x, k⟩ + 1 ∧ ¬ x > mostN n := by
  obtain ⟨_, _, l1, l2, l3, l4⟩ := mg_fin hb h
  have hk : k + 1 < 2 ^ (fN n + 1) := bl_le.1 (by omega)
  have h' : isD (fN n) (leastN n) (mostN n) ⟨1, s, false, x, k + 1⟩ := Or.inl ⟨rfl, rfl, hk, l1, l2, by rcases l4 with q | q; exact Or.inl (Nat.le_succ_of_le q); exact Or.inr q⟩
  rw [pk_fin hb h, pk_fin hb h']
  omega
theorem nx_full (hL : ((bl (k + 1) : Nat) : Int) > (fN n : Int) + 1) : k + 1 = 2 ^ (fN n + 1) := by
  obtain ⟨_, _, l1, l2, l3, l4⟩ := mg_fin hb h
  have hk : ¬ k + 1 < 2 ^ (fN n + 1) := fun q => by have := bl_le.2 q; omega
  omega
theorem nx_a2 (hL : ((bl (k + 1) : Nat) : Int) > (fN n : Int) + 1) (hM : ¬ x + 1 > mostN n) : pkV n ⟨1, s, false, x + 1, (k + 1) / 2⟩ = pkV n ⟨1, s, false, x, k⟩ + 1 := by
  have hk := nx_full hb h hL
  obtain ⟨_, _, l1, l2, l3, l4⟩ := mg_fin hb h
  have hp : (2 : Nat) ^ (fN n + 1) = 2 ^ fN n + 2 ^ fN n := by rw [Nat.pow_succ]; omega
  have hq : (k + 1) / 2 = 2 ^ fN n := by omega
  have hp0 := Nat.two_pow_pos (fN n)
  rw [hq]
  have h' : isD (fN n) (leastN n) (mostN n) ⟨1, s, false, x + 1, 2 ^ fN n⟩ := Or.inl ⟨rfl, rfl, show 2 ^ fN n < 2 ^ (fN n + 1) by omega, show leastN n ≤ x + 1 by omega, show x + 1 ≤ mostN n by omega, Or.inl (Nat.le_refl _)⟩
  rw [pk_fin hb h, pk_fin hb h', show (x + 1 - leastN n).toNat = (x - leastN n).toNat + 1 by omega, Nat.add_mul]
  omega
theorem nx_a3 (hL : ((bl (k + 1) : Nat) : Int) > (fN n : Int) + 1) (hM : x + 1 > mostN n) : pkV n ⟨2, s, false, 0, 0⟩ = pkV n ⟨1, s, false, x, k⟩ + 1 := by
  have hk := nx_full hb h hL
  obtain ⟨_, _, l1, l2, l3, l4⟩ := mg_fin hb h
  obtain ⟨t1, _, _⟩ := top_is hb
  rw [pk_fin hb h, pk_inf hb, t1, show x = mostN n by omega]
  omega
theorem nx_d1 (hL : ((bl (k - 1) : Nat) : Int) < (fN n : Int) + 1) (hM : x > leastN n) : pkV n ⟨1, s, false, x - 1, (k - 1) * 2 + 1⟩ = pkV n ⟨1, s, false, x, k⟩ - 1 := by
  obtain ⟨_, _, l1, l2, l3, l4⟩ := mg_fin hb h
  have hk : k - 1 < 2 ^ fN n := bl_le.1 (by omega)
  have hk2 : 2 ^ fN n ≤ k := l4.resolve_right (by omega)
  have hp0 := Nat.two_pow_pos (fN n)
  have hp : (2 : Nat) ^ (fN n + 1) = 2 ^ fN n + 2 ^ fN n := by rw [Nat.pow_succ]; omega
  have h' : isD (fN n) (leastN n) (mostN n) ⟨1, s, false, x - 1, (k - 1) * 2 + 1⟩ := Or.inl ⟨rfl, rfl, show (k - 1) * 2 + 1 < 2 ^ (fN n + 1) by omega, show leastN n ≤ x - 1 by omega, show x - 1 ≤ mostN n by omega, Or.inl (show 2 ^ fN n ≤ (k - 1) * 2 + 1 by omega)⟩
  obtain ⟨p, hp'⟩ : ∃ p, (x - leastN n).toNat = p + 1 := ⟨(x - leastN n).toNat - 1, by omega⟩
  rw [pk_fin hb h, pk_fin hb h', show (x - 1 - leastN n).toNat = p by omega, hp', Nat.add_mul]
  omega
theorem nx_d2 (hk0 : k ≠ 0) (hL : ¬ ((bl (k - 1) : Nat) : Int) < (fN n : Int) + 1 ∨ ¬ x > leastN n) : pkV n ⟨1, s, false, x, k - 1⟩ = pkV n ⟨1, s, false, x, k⟩ - 1 := by
  obtain ⟨_, _, l1, l2, l3, l4⟩ := mg_fin hb h
  have hor : 2 ^ fN n ≤ k - 1 ∨ x = leastN n := by
    rcases hL with q | q
    · left
      refine Nat.le_of_not_lt fun p => ?_
      have := bl_le.2 p
      omega
    · right; omega
  have h' : isD (fN n) (leastN n) (mostN n) ⟨1, s, false, x, k - 1⟩ := Or.inl ⟨rfl, rfl, show k - 1 < 2 ^ (fN n + 1) by omega, l1, l2, hor⟩
  rw [pk_fin hb h, pk_fin hb h']
  omega
end
theorem nx_zero {n : Int} (hb : binN n) (s : Bool) : pkV n ⟨1, s, false, leastN n, 1⟩ = 1 + sgN n s := by
  have hf := (bin_fm hb).f240
  have h' : isD (fN n) (leastN n) (mostN n) ⟨1, s, false, leastN n, 1⟩ := Or.inl ⟨rfl, rfl, show 1 < 2 ^ (fN n + 1) from Nat.lt_of_lt_of_le (by decide : 1 < 2 ^ 1) (Nat.pow_le_pow_right (by decide) (by omega)), Int.le_refl _, (top_is hb).2.2, Or.inr rfl⟩
  rw [pk_fin hb h', Int.sub_self]
  simp
theorem fit_good {n : Int} (hb : binN n) (B : Nat) : (okN n ∧ B < 2 ^ (widthN n).toNat) ↔ goodN n B := by
  obtain ⟨hok, _, _, _, hw, _⟩ := bin_fields hb
  rw [hw, Int.toNat_natCast]
  exact ⟨fun q => ⟨hb, q.2⟩, fun q => ⟨hok, q.2⟩⟩
theorem W4_one : W4 1 0 = 1 ∧ W4 1 1 = 0 ∧ W4 1 2 = 0 ∧ W4 1 3 = 0 := ⟨by decide, by decide, by decide, by decide⟩
attribute [local irreducible] W4 NT NV
set_option maxHeartbeats 2000000 in
theorem rnext20 (n : Int) (B : Nat) (up : Bool) (w : World) (hB : B < 2 ^ 256) :
    Calls Tryz.prog 17 #[.int .i64 n, A4 B, .bool up] w fun r w' => r = .returned (.tuple #[A4 (nxV n B up), .int .i64 (nxF n B), .int .i64 (nxE n B)]) ∧ Below w.heap.size w w' := by
  have c1 := fun W => rfits4 n B hB W
  have c2 : ∀ W, Calls Tryz.prog 38 #[.int .i64 n] W fun r w' => r = .returned (.bool (decide (binN n))) ∧ W = w' := fun W => (rbinary_any n W).mono fun r w' h => ⟨h.1, h.2.symm⟩
  have hZ : A4 0 = Z4 := by unfold A4; simp only [W4_zero]
  unfold nxE
  by_cases hf : okN n ∧ B < 2 ^ (widthN n).toNat
  · rw [decide_eq_true hf] at c1
    rw [if_pos hf]
    by_cases hb : binN n
    · rw [decide_eq_true hb] at c2
      rw [if_pos hb]
      have hg : goodN n B := (fit_good hb B).1 hf
      have c3 := fun W => runpack_any n B W hB
      rw [show unE n B = 0 from if_pos hg] at c3
      have c4 := fun W => rofv_any n W
      obtain ⟨hok, hb2, hpr, hex, hwd, hpy⟩ := bin_fields hb
      have hnt : numN n = n := by rcases bin_cases hb with rfl | rfl | rfl | rfl | rfl | rfl <;> decide
      rw [show infoE n = 0 from if_pos hok, hnt] at c4
      have hi := und_is hg
      have hpk := (back_un hg).2
      have hk := unD_k n B
      have hxb : -16990 ≤ leastN n ∧ mostN n ≤ 16990 := by rcases bin_cases hb with rfl | rfl | rfl | rfl | rfl | rfl <;> decide
      have eV : nxV n B up = if (unD n B).c = 3 then quV n B else nxP n B up := if_pos hg
      have eF : nxF n B = if (unD n B).c = 3 ∧ (unD n B).g = true then 1 else 0 := by
        unfold nxF
        by_cases q : (unD n B).c = 3 ∧ (unD n B).g = true
        · rw [if_pos ⟨hg, q⟩, if_pos q]
        · rw [if_neg (fun p => q p.2), if_neg q]
      have cq := fun W => rquiet_any n B W hB
      unfold nxP at eV
      generalize hD : unD n B = D at *
      obtain ⟨c, s, g, x, k⟩ := D
      dsimp only at eV eF hk
      by_cases h3 : c = 3
      · rw [if_pos h3] at eV
        have eF' : nxF n B = if g = true then 1 else 0 := by
          rw [eF]
          cases g
          · rw [if_neg (fun p => by exact absurd p.2 (by decide)), if_neg (by decide)]
          · rw [if_pos ⟨h3, rfl⟩, if_pos rfl]
        rw [eV, eF']
        exact rnx_3 n B w c x s g k _ _ _ _ _ _ _ _ _ c1 c2 c3 c4 up h3 _ _ cq
      · rw [if_neg h3] at eV
        have eF' : nxF n B = 0 := by rw [eF, if_neg (fun p => h3 p.1)]
        rw [eF']
        clear eF eF' cq
        rcases id hi with ⟨h1, h2, b1, b2, b3, b4⟩ | ⟨h1, h2, b1, b2⟩ | ⟨h1, _⟩
        · dsimp only at h1 h2 b1 b2 b3
          subst h1 h2
          by_cases hk0 : k = 0
          · rw [if_pos ⟨rfl, hk0⟩] at eV
            rw [eV, ← nx_zero hb (!up)]
            have c5 := fun W => rpack_any n ⟨1, !up, false, leastN n, 1⟩ W (show (1 : Nat) < 2 ^ 256 by decide)
            have e1 : (⟨1, !up, false, leastN n, 1⟩ : Dat).v = .agg #[.int .i64 1, .bool (!up), .bool false, .int .i64 (leastN n), .int .u64 1, .int .u64 0, .int .u64 0, .int .u64 0] := by
              show DV 1 (!up) false (leastN n) 1 = _
              unfold DV
              rw [W4_one.1, W4_one.2.1, W4_one.2.2.1, W4_one.2.2.2]
            rw [e1] at c5
            exact rnx_0 n B w 1 x s false k _ _ _ _ _ _ _ _ _ c1 c2 c3 c4 up rfl hk0 _ _ c5
          · rw [if_neg (fun q => hk0 q.2), if_neg (show ¬ (1 : Int) = 2 by decide)] at eV
            have c5 : ∀ W, Calls Tryz.prog 48 #[A4 k] W fun r w' => ∃ v, r = .returned v ∧ NV 10 k v w' ∧ Below W.heap.size W w' := fun W => (rnat13 k W hk).mono (by
              rintro r w' ⟨g, m, cap, rfl, _, hn, hb⟩
              exact ⟨_, rfl, (hn.more (by decide)).nv, hb⟩)
            have hx : -100000 ≤ x ∧ x ≤ 100000 := by omega
            have cA : ∀ W u v, NV 10 k u W → NV 900 1 v W → Calls Tryz.prog 21 #[u, v] W fun r w' => ∃ a, r = .returned a ∧ NV 950 (k + 1) a w' ∧ Below W.heap.size W w' := fun W u v hu hv => (radd_nv (by decide) (by decide) hu hv).mono fun e w' ⟨a, e1, e2, e3⟩ => ⟨a, e1, e2.more (by decide), e3⟩
            have cS : ∀ W u v, NV 10 k u W → NV 900 1 v W → Calls Tryz.prog 50 #[u, v] W fun r w' => ∃ a, r = .returned a ∧ NV 950 (k - 1) a w' ∧ Below W.heap.size W w' := fun W u v hu hv => (rless_nt (by decide) (by decide) hu hv (by omega)).mono fun e w' ⟨a, e1, e2, e3⟩ => ⟨a, e1, (e2.more (by decide)).nv, e3⟩
            have cL : ∀ (N : Nat) W u, NV 950 N u W → Calls Tryz.prog 23 #[u] W fun r w' => r = .returned (.int .i64 (bl N : Int)) ∧ Below W.heap.size W w' := fun N W u hu => (rlen_nv (by decide) hu).mono fun e w' ⟨e1, e2⟩ => ⟨e1, e2 ▸ Below.refl _ _⟩
            have cR : ∀ W u, NV 950 (k + 1) u W → Calls Tryz.prog 49 #[u, .int .i64 1] W fun r w' => ∃ a q p b, r = .returned (.tuple #[.slice (some ⟨a, 0, none⟩) q p, .bool b]) ∧ W.heap.size ≤ a ∧ NV 950 ((k + 1) / 2) (.slice (some ⟨a, 0, none⟩) q p) w' ∧ Below W.heap.size W w' := fun W u hu => rrightf_nv 1 (by decide) (by decide) (by decide) hu
            have cLf : ∀ W u, NV 950 (k - 1) u W → Calls Tryz.prog 22 #[u, .int .i64 1] W fun r w' => ∃ a, r = .returned a ∧ NV 1100 ((k - 1) * 2) a w' ∧ Below W.heap.size W w' := fun W u hu => by
              have q := rleft_nv 1 (by decide) (by decide) hu
              rw [Nat.pow_one] at q
              exact q.mono fun e w' ⟨a, e1, e2, e3⟩ => ⟨a, e1, e2.more (by decide), e3⟩
            have cPf : ∀ W u v, NV 1100 ((k - 1) * 2) u W → NV 900 1 v W → Calls Tryz.prog 21 #[u, v] W fun r w' => ∃ a q p, r = .returned (.slice (some ⟨a, 0, none⟩) q p) ∧ W.heap.size ≤ a ∧ NV 2100 ((k - 1) * 2 + 1) (.slice (some ⟨a, 0, none⟩) q p) w' ∧ Below W.heap.size W w' := fun W u v hu hv =>
              (raddf_nv (by decide) (by decide) hu hv).mono fun e w' ⟨a, q, p, e1, e2, e3, e4⟩ => ⟨a, q, p, e1, e2, e3.more (by decide), e4⟩
            have hk1 : k + 1 < 2 ^ 256 ∧ (k + 1) / 2 < 2 ^ 256 ∧ k - 1 < 2 ^ 256 ∧ (k - 1) * 2 + 1 < 2 ^ 256 := by
              have hf := (bin_fm hb).f240
              have : (2 : Nat) ^ (fN n + 1) ≤ 2 ^ 241 := Nat.pow_le_pow_right (by decide) (by omega)
              have h2 : (2 : Nat) ^ 241 * 4 ≤ 2 ^ 256 := by decide
              omega
            by_cases hs : s = up
            · subst hs
              rw [if_pos rfl] at eV
              rw [eV]
              by_cases hL : ((bl (k - 1) : Nat) : Int) < (fN n : Int) + 1
              · have hL' : ((bl (k - 1) : Nat) : Int) < precN n := by rw [hpr]; exact hL
                by_cases hM : x > leastN n
                · rw [show B - 1 = pkV n ⟨1, s, false, x - 1, (k - 1) * 2 + 1⟩ by rw [nx_d1 hb hi hL hM, hpk]]
                  exact rnx_d1 n B w 1 x s false k (nameN n) (baseN n) (widthN n) (precN n) (expN n) (leastN n) (mostN n) (payN n) (denseN n) c1 c2 c3 c4 rfl hk0 hk hx c5 ((bl (k - 1) : Nat) : Int) hL' hM (pkV n ⟨1, s, false, x - 1, (k - 1) * 2 + 1⟩) (pkE n ⟨1, s, false, x - 1, (k - 1) * 2 + 1⟩) cS (cL (k - 1)) cLf
                    cPf (fun W u hu => bits_nv hu) (fun W => rpack_any n ⟨1, s, false, x - 1, (k - 1) * 2 + 1⟩ W hk1.2.2.2)
                · rw [show B - 1 = pkV n ⟨1, s, false, x, k - 1⟩ by rw [nx_d2 hb hi hk0 (Or.inr hM), hpk]]
                  exact rnx_d3 n B w 1 x s false k (nameN n) (baseN n) (widthN n) (precN n) (expN n) (leastN n) (mostN n) (payN n) (denseN n) c1 c2 c3 c4 rfl hk0 hk hx c5 ((bl (k - 1) : Nat) : Int) hL' hM (pkV n ⟨1, s, false, x, k - 1⟩) (pkE n ⟨1, s, false, x, k - 1⟩) cS (cL (k - 1)) (fun W u hu => bits_nv hu) (fun W => rpack_any n ⟨1, s, false, x, k - 1⟩ W hk1.2.2.1)
              · have hL' : ¬ ((bl (k - 1) : Nat) : Int) < precN n := by rw [hpr]; exact hL
                rw [show B - 1 = pkV n ⟨1, s, false, x, k - 1⟩ by rw [nx_d2 hb hi hk0 (Or.inl hL), hpk]]
                exact rnx_d2 n B w 1 x s false k (nameN n) (baseN n) (widthN n) (precN n) (expN n) (leastN n) (mostN n) (payN n) (denseN n) c1 c2 c3 c4 rfl hk0 hk hx c5 ((bl (k - 1) : Nat) : Int) hL' (pkV n ⟨1, s, false, x, k - 1⟩) (pkE n ⟨1, s, false, x, k - 1⟩) cS (cL (k - 1)) (fun W u hu => bits_nv hu) (fun W => rpack_any n ⟨1, s, false, x, k - 1⟩ W hk1.2.2.1)
            · rw [if_neg hs] at eV
              obtain rfl : up = !s := by cases s <;> cases up <;> first | rfl | exact absurd rfl hs
              rw [eV]
              by_cases hL : ((bl (k + 1) : Nat) : Int) > (fN n : Int) + 1
              · have hL' : ((bl (k + 1) : Nat) : Int) > precN n := by rw [hpr]; exact hL
                by_cases hM : x + 1 > mostN n
                · rw [show B + 1 = pkV n ⟨2, s, false, 0, 0⟩ by rw [nx_a3 hb hi hL hM, hpk]]
                  have c9 := fun W => rpack_any n ⟨2, s, false, 0, 0⟩ W (show (0 : Nat) < 2 ^ 256 by decide)
                  have e1 : (⟨2, s, false, 0, 0⟩ : Dat).v = .agg #[.int .i64 2, .bool s, .bool false, .int .i64 0, .int .u64 0, .int .u64 0, .int .u64 0, .int .u64 0] := by
                    show DV 2 s false 0 0 = _
                    unfold DV
                    simp only [W4_zero]
                  rw [e1] at c9
                  exact rnx_a3 n B w 1 x s false k (nameN n) (baseN n) (widthN n) (precN n) (expN n) (leastN n) (mostN n) (payN n) (denseN n) c1 c2 c3 c4 rfl hk0 hk hx c5 ((bl (k + 1) : Nat) : Int) hL' hM (pkV n ⟨2, s, false, 0, 0⟩) (pkE n ⟨2, s, false, 0, 0⟩) cA (cL (k + 1)) cR (fun W => by have := bits_none W; rw [hZ] at this; exact this) c9
                · rw [show B + 1 = pkV n ⟨1, s, false, x + 1, (k + 1) / 2⟩ by rw [nx_a2 hb hi hL hM, hpk]]
                  exact rnx_a2 n B w 1 x s false k (nameN n) (baseN n) (widthN n) (precN n) (expN n) (leastN n) (mostN n) (payN n) (denseN n) c1 c2 c3 c4 rfl hk0 hk hx c5 ((bl (k + 1) : Nat) : Int) hL' hM (pkV n ⟨1, s, false, x + 1, (k + 1) / 2⟩) (pkE n ⟨1, s, false, x + 1, (k + 1) / 2⟩) cA (cL (k + 1)) cR (fun W u hu => bits_nv hu) (fun W => rpack_any n ⟨1, s, false, x + 1, (k + 1) / 2⟩ W hk1.2.1)
              · have hL' : ¬ ((bl (k + 1) : Nat) : Int) > precN n := by rw [hpr]; exact hL
                obtain ⟨a1, a2⟩ := nx_a1 hb hi hL
                rw [show B + 1 = pkV n ⟨1, s, false, x, k + 1⟩ by rw [a1, hpk]]
                exact rnx_a1 n B w 1 x s false k (nameN n) (baseN n) (widthN n) (precN n) (expN n) (leastN n) (mostN n) (payN n) (denseN n) c1 c2 c3 c4 rfl hk0 hk hx c5 ((bl (k + 1) : Nat) : Int) hL' a2 (pkV n ⟨1, s, false, x, k + 1⟩) (pkE n ⟨1, s, false, x, k + 1⟩) cA (cL (k + 1)) (fun W u hu => bits_nv hu) (fun W => rpack_any n ⟨1, s, false, x, k + 1⟩ W hk1.1)
        · dsimp only at h1 h2 b1 b2
          subst h1 h2 b1 b2
          rw [if_neg (fun q => absurd (show (2 : Int) = 1 from q.1) (by decide)), if_pos rfl] at eV
          by_cases hs : s = up
          · subst hs
            rw [if_pos rfl] at eV
            have e1 : B - 1 = lgV n s := by
              obtain ⟨t1, t2⟩ := lg_top (s := s) hb
              rw [← hpk, pk_inf hb, t1]
              omega
            rw [eV, e1]
            exact rnx_l n B w 2 0 s false 0 _ _ _ _ _ _ _ _ _ c1 c2 c3 c4 rfl _ _ (fun W => rlargest_any n s W)
          · rw [if_neg hs] at eV
            obtain rfl : up = !s := by cases s <;> cases up <;> first | rfl | exact absurd rfl hs
            rw [eV]
            exact rnx_i n B w 2 0 s false 0 _ _ _ _ _ _ _ _ _ c1 c2 c3 c4 rfl
        · exact absurd h1 h3
    · rw [decide_eq_false hb] at c2
      rw [if_neg hb, show nxV n B up = 0 from if_neg (fun q => hb q.1), show nxF n B = 0 from if_neg (fun q => hb q.1.1), hZ]
      exact rnx_b n B w up c1 c2
  · rw [decide_eq_false hf] at c1
    have hg : ¬ goodN n B := fun q => hf ((fit_good q.1 B).2 q)
    rw [if_neg hf, show nxV n B up = 0 from if_neg hg, show nxF n B = 0 from if_neg (fun q => hg q.1), hZ]
    exact rnx_f n B w up c1
end
section
/-- what order's Next answers -/
structure OrdN (TT : World → Prop) : Prop where
  nx : ∀ n B up W, B < 2 ^ 256 → TT W → Calls Tryz.prog 16 #[.int .i64 n, A4 B, .bool up] W fun r w' => r = .returned (.tuple #[A4 (nxV n B up), .int .i64 (nxF n B), .int .i64 (nxE n B)]) ∧ Below W.heap.size W w'
attribute [local irreducible] W4
set_option maxHeartbeats 4000000 in
theorem nx20_w (TT : World → Prop) (hTT : ∀ w w', TT w → Below w.heap.size w w' → TT w') (w : World) (hT : TT w)
    (c8 : ∀ W, TT W → Calls Tryz.prog 8 #[] W fun r w' => r = .returned (.bool true) ∧ Below W.heap.size W w')
    (n : Int) (Bp : Nat) (up : Bool) (V : Nat) (F E : Int)
    (c9 : ∀ W, TT W → Calls Tryz.prog 16 #[.int .i64 n, A4 Bp, .bool up] W fun r w' => r = .returned (.tuple #[A4 V, .int .i64 F, .int .i64 E]) ∧ Below W.heap.size W w')
    (c10 : ∀ W, Calls Tryz.prog 17 #[.int .i64 n, A4 Bp, .bool up] W fun r w' => r = .returned (.tuple #[A4 V, .int .i64 F, .int .i64 E]) ∧ Below W.heap.size W w') :
    Calls Tryz.prog 5 #[.int .i64 n, A4 Bp, .bool up] w fun r w' => r = .returned (.bool true) ∧ Below w.heap.size w w' := by
  have hsm := cell_set_map
  have e1 := eq24 (W4 V 0) (W4 V 1) (W4 V 2) (W4 V 3) (W4 V 0) (W4 V 1) (W4 V 2) (W4 V 3)
  rw [decide_eq_true ⟨rfl, rfl, rfl, rfl⟩] at e1
  unfold A4 at *
  go_enter Tryz.func5, Tryz.ntmps5
  go_wp2_with (first
    | (go_at_call 8; refine (c8 _ (hTT _ _ hT bgo)).mono ?_; rintro r w1 ⟨rfl, hb1⟩; obtain ⟨hc1, hf1⟩ := bcell hb1; have hz1_0 : w.heap.size < w1.heap.size := lt_below hb1 ltg; have hl1_0 := Nat.le_of_lt hz1_0; have hA1 := bnext (w0 := w) bgo hb1; have hs1 := hA1.size; clear hb1)
    | (go_at_call 16; refine (c9 _ (hTT _ _ hT bgo)).mono ?_; rintro r w2 ⟨rfl, hb2⟩; obtain ⟨hc2, hf2⟩ := bcell hb2; have hz2_0 : w.heap.size < w2.heap.size := lt_below hb2 ltg; have hl2_0 := Nat.le_of_lt hz2_0; have hA2 := bnext (w0 := w) bgo hb2; have hs2 := hA2.size; clear hb2)
    | (go_at_call 17; refine (c10 _).mono ?_; rintro r w3 ⟨rfl, hb3⟩; obtain ⟨hc3, hf3⟩ := bcell hb3; have hz3_0 : w.heap.size < w3.heap.size := lt_below hb3 ltg; have hl3_0 := Nat.le_of_lt hz3_0; have hz3_1 : w2.heap.size < w3.heap.size := lt_below hb3 ltg; have hl3_1 := Nat.le_of_lt hz3_1; have hA3 := bnext (w0 := w) bgo hb3; have hs3 := hA3.size; clear hb3))
  go_ret
  exact ⟨by first | rfl | simp, bgo⟩
theorem next20_v {TT : World → Prop} (h : OrdC TT) (hN : OrdN TT) (n : Int) (Bp : Nat) (up : Bool) (w : World) (hT : TT w) (hB : Bp < 2 ^ 256) :
    Calls Tryz.prog 5 #[.int .i64 n, A4 Bp, .bool up] w fun r w' => r = .returned (.bool true) ∧ Below w.heap.size w w' :=
  nx20_w TT h.next w hT (fun W hW => awake20 h W hW) n Bp up _ _ _ (fun W hW => hN.nx n Bp up W hB hW) (fun W => rnext20 n Bp up W hB)
end
section
attribute [local irreducible] W4 Nt Nz NT
set_option maxHeartbeats 2000000 in
theorem oq_l (n : Int) (B : Nat) (z : Bool) (Q : Nat) (E : Int) (w : World) (hT : Tab w)
    (c1 : ∀ W, Tab W → Calls Tryz.prog 83 #[.int .i64 n, A4 B] W fun r w' => r = .returned (.tuple #[A4 Q, .int .i64 E]) ∧ Below W.heap.size W w') :
    Calls Tryz.prog 41 #[.int .i64 n, A4 B, .bool z] w fun r w' => r = .returned (.tuple #[A4 Q, .int .i64 (if z then 1 else 0), .int .i64 E]) ∧ Below w.heap.size w w' := by
  have hsm := cell_set_map
  cases z
  all_goals
    go_enter Tryz.func41, Tryz.ntmps41
    go_wp2_with (go_at_call 83; refine (c1 _ (hT.go bgo)).mono ?_; rintro r w1 ⟨rfl, hb1⟩; obtain ⟨hc1, hf1⟩ := bcell hb1; have hz1_0 : w.heap.size < w1.heap.size := lt_below hb1 ltg; have hl1_0 := Nat.le_of_lt hz1_0; have hz1_1 : w.heap.size + 1 < w1.heap.size := lt_below hb1 ltg; have hl1_1 := Nat.le_of_lt hz1_1; have hA1 := bnext (w0 := w) bgo hb1; have hs1 := hA1.size; clear hb1)
    exact bodyPost_ret (by simp only [results, Tryz.results41]; go_simp) rfl ⟨rfl, bgo⟩
theorem w4_one : W4 1 0 = 1 ∧ W4 1 1 = 0 ∧ W4 1 2 = 0 ∧ W4 1 3 = 0 := by unfold W4; decide
set_option maxHeartbeats 2000000 in
theorem osm_l (n : Int) (z : Bool) (V : Nat) (E F b num wi pr ex le mo pa : Int) (nm : ByteArray) (de : Bool) (w : World) (hT : Tab w)
    (c1 : ∀ W, Tab W → Calls Tryz.prog 81 #[.int .i64 n] W fun r w' => r = .returned (.tuple #[.agg #[.int .i64 num, .string nm, .int .i64 b, .int .i64 wi, .int .i64 pr, .int .i64 ex, .int .i64 le, .int .i64 mo, .int .i64 pa, .bool de], .int .i64 F]) ∧ Below W.heap.size W w')
    (c2 : ∀ W, Tab W → Calls Tryz.prog 70 #[.int .i64 n, DV 1 z false le 1] W fun r w' => r = .returned (.tuple #[A4 V, .int .i64 E]) ∧ Below W.heap.size W w') :
    Calls Tryz.prog 42 #[.int .i64 n, .bool z] w fun r w' => r = .returned (A4 V) ∧ Below w.heap.size w w' := by
  have hsm := cell_set_map
  obtain ⟨z0, z1, z2, z3⟩ := w4_one
  unfold DV at c2
  rw [z0, z1, z2, z3] at c2
  go_enter Tryz.func42, Tryz.ntmps42
  go_wp2_with (first
    | (go_at_call 81; refine (c1 _ (hT.go bgo)).mono ?_; rintro r w1 ⟨rfl, hb1⟩; obtain ⟨hc1, hf1⟩ := bcell hb1; have hz1_0 : w.heap.size < w1.heap.size := lt_below hb1 ltg; have hl1_0 := Nat.le_of_lt hz1_0; have hA1 := bnext (w0 := w) bgo hb1; have hs1 := hA1.size; clear hb1)
    | (go_at_call 70; refine (c2 _ (hT.go bgo)).mono ?_; rintro r w2 ⟨rfl, hb2⟩; obtain ⟨hc2, hf2⟩ := bcell hb2; have hz2_0 : w.heap.size < w2.heap.size := lt_below hb2 ltg; have hl2_0 := Nat.le_of_lt hz2_0; have hz2_1 : w1.heap.size < w2.heap.size := lt_below hb2 ltg; have hl2_1 := Nat.le_of_lt hz2_1; have hA2 := bnext (w0 := w) bgo hb2; have hs2 := hA2.size; clear hb2))
  exact bodyPost_ret (by simp only [results, Tryz.results42]; go_simp) rfl ⟨rfl, bgo⟩
section
variable (B : Nat) (c x b : Int) (s g : Bool) (k : Nat) (up : Bool) (w : World)
  (c1 : ∀ W, Calls Tryz.prog 84 #[.int .u64 1] W fun r w' => r = .returned (A4 1) ∧ Below W.heap.size W w')
include c1
set_option maxHeartbeats 8000000 in
theorem st_tt (V : Nat) (C : Int) 
    (c2 : ∀ W, Calls Tryz.prog 85 #[A4 B, A4 1] W fun r w' => r = .returned (.tuple #[A4 V, .int .u64 C]) ∧ Below W.heap.size W w') :
    Calls Tryz.prog 43 #[A4 B, OV c true g x k b, .bool true] w fun r w' => r = .returned (A4 V) ∧ Below w.heap.size w w' := by
  have hsm := cell_set_map
  unfold A4 at *
  go_enter Tryz.func43, Tryz.ntmps43
  go_wp2
  refine regSt (ga := w.heap.size) (X4 := B) rfl rfl (by first | omega | (simp; omega) | simp) (by go_simp) (by go_simp) (by go_simp) (by go_simp) c1 ?_
  intro a' w4 p q h7 h8 hne hp hq hP hO hsz hdf hF2 hb4
  have ha := act_of slotsSt 5 rfl hsz hdf hF2
  rw [ha]
  simp only [slotsSt, List.foldl_cons, List.foldl_nil, Act.put, List.setIfInBounds_toArray, List.set_cons_succ, List.set_cons_zero, h7, h8]
  generalize slot a' 9 = s9
  generalize slot a' 10 = s10
  generalize slot a' 0 = s0
  clear ha h7 h8 hsz hdf hF2
  have hp' : w.heap.size + 1 + 1 + 1 ≤ p := by simpa using hp
  have hq' : w.heap.size + 1 + 1 + 1 ≤ q := by simpa using hq
  clear hp hq
  obtain ⟨lp, p0, p1, p2, p3, y0, y1, y2, y3⟩ := hP
  obtain ⟨lq, q0, q1, q2, q3, u0, u1, u2, u3⟩ := hO
  obtain ⟨hc4, hf4⟩ := bcell hb4; have hz4_0 : w.heap.size < w4.heap.size := lt_below hb4 ltg; have hl4_0 := Nat.le_of_lt hz4_0; have hz4_1 : w.heap.size + 1 < w4.heap.size := lt_below hb4 ltg; have hl4_1 := Nat.le_of_lt hz4_1; have hz4_2 : w.heap.size + 1 + 1 < w4.heap.size := lt_below hb4 ltg; have hl4_2 := Nat.le_of_lt hz4_2; have hA4 := bnext (w0 := w) bgo hb4; have hs4 := hA4.size; clear hb4
  go_wp2_with (go_at_call 85; refine (c2 _).mono ?_; rintro r w5 ⟨rfl, hb5⟩; obtain ⟨hc5, hf5⟩ := bcell hb5; have hz5_0 : w.heap.size < w5.heap.size := lt_below hb5 ltg; have hl5_0 := Nat.le_of_lt hz5_0; have hz5_1 : w.heap.size + 1 < w5.heap.size := lt_below hb5 ltg; have hl5_1 := Nat.le_of_lt hz5_1; have hz5_2 : w.heap.size + 1 + 1 < w5.heap.size := lt_below hb5 ltg; have hl5_2 := Nat.le_of_lt hz5_2; have hz5_3 : p < w5.heap.size := lt_below hb5 ltg; have hl5_3 := Nat.le_of_lt hz5_3; have hz5_4 : q < w5.heap.size := lt_below hb5 ltg; have hl5_4 := Nat.le_of_lt hz5_4; have hA5 := bnext (w0 := w) bgo hb5; have hs5 := hA5.size; clear hb5)
  exact bodyPost_ret (by simp only [results, Tryz.results43]; go_simp) rfl ⟨rfl, bgo⟩
set_option maxHeartbeats 8000000 in
theorem st_ff (V : Nat) (C : Int) 
    (c2 : ∀ W, Calls Tryz.prog 85 #[A4 B, A4 1] W fun r w' => r = .returned (.tuple #[A4 V, .int .u64 C]) ∧ Below W.heap.size W w') :
    Calls Tryz.prog 43 #[A4 B, OV c false g x k b, .bool false] w fun r w' => r = .returned (A4 V) ∧ Below w.heap.size w w' := by
  have hsm := cell_set_map
  unfold A4 at *
  go_enter Tryz.func43, Tryz.ntmps43
  go_wp2
  refine regSt (ga := w.heap.size) (X4 := B) rfl rfl (by first | omega | (simp; omega) | simp) (by go_simp) (by go_simp) (by go_simp) (by go_simp) c1 ?_
  intro a' w4 p q h7 h8 hne hp hq hP hO hsz hdf hF2 hb4
  have ha := act_of slotsSt 5 rfl hsz hdf hF2
  rw [ha]
  simp only [slotsSt, List.foldl_cons, List.foldl_nil, Act.put, List.setIfInBounds_toArray, List.set_cons_succ, List.set_cons_zero, h7, h8]
  generalize slot a' 9 = s9
  generalize slot a' 10 = s10
  generalize slot a' 0 = s0
  clear ha h7 h8 hsz hdf hF2
  have hp' : w.heap.size + 1 + 1 + 1 ≤ p := by simpa using hp
  have hq' : w.heap.size + 1 + 1 + 1 ≤ q := by simpa using hq
  clear hp hq
  obtain ⟨lp, p0, p1, p2, p3, y0, y1, y2, y3⟩ := hP
  obtain ⟨lq, q0, q1, q2, q3, u0, u1, u2, u3⟩ := hO
  obtain ⟨hc4, hf4⟩ := bcell hb4; have hz4_0 : w.heap.size < w4.heap.size := lt_below hb4 ltg; have hl4_0 := Nat.le_of_lt hz4_0; have hz4_1 : w.heap.size + 1 < w4.heap.size := lt_below hb4 ltg; have hl4_1 := Nat.le_of_lt hz4_1; have hz4_2 : w.heap.size + 1 + 1 < w4.heap.size := lt_below hb4 ltg; have hl4_2 := Nat.le_of_lt hz4_2; have hA4 := bnext (w0 := w) bgo hb4; have hs4 := hA4.size; clear hb4
  go_wp2_with (go_at_call 85; refine (c2 _).mono ?_; rintro r w5 ⟨rfl, hb5⟩; obtain ⟨hc5, hf5⟩ := bcell hb5; have hz5_0 : w.heap.size < w5.heap.size := lt_below hb5 ltg; have hl5_0 := Nat.le_of_lt hz5_0; have hz5_1 : w.heap.size + 1 < w5.heap.size := lt_below hb5 ltg; have hl5_1 := Nat.le_of_lt hz5_1; have hz5_2 : w.heap.size + 1 + 1 < w5.heap.size := lt_below hb5 ltg; have hl5_2 := Nat.le_of_lt hz5_2; have hz5_3 : p < w5.heap.size := lt_below hb5 ltg; have hl5_3 := Nat.le_of_lt hz5_3; have hz5_4 : q < w5.heap.size := lt_below hb5 ltg; have hl5_4 := Nat.le_of_lt hz5_4; have hA5 := bnext (w0 := w) bgo hb5; have hs5 := hA5.size; clear hb5)
  exact bodyPost_ret (by simp only [results, Tryz.results43]; go_simp) rfl ⟨rfl, bgo⟩
set_option maxHeartbeats 8000000 in
theorem st_tf (V : Nat) (C : Int) (hc : (c == 2) = false)
    (c2 : ∀ W, Calls Tryz.prog 86 #[A4 B, A4 1] W fun r w' => r = .returned (.tuple #[A4 V, .int .u64 C]) ∧ Below W.heap.size W w') :
    Calls Tryz.prog 43 #[A4 B, OV c true g x k b, .bool false] w fun r w' => r = .returned (A4 V) ∧ Below w.heap.size w w' := by
  have hsm := cell_set_map
  unfold A4 at *
  go_enter Tryz.func43, Tryz.ntmps43
  go_wp2
  refine regSt (ga := w.heap.size) (X4 := B) rfl rfl (by first | omega | (simp; omega) | simp) (by go_simp) (by go_simp) (by go_simp) (by go_simp) c1 ?_
  intro a' w4 p q h7 h8 hne hp hq hP hO hsz hdf hF2 hb4
  have ha := act_of slotsSt 5 rfl hsz hdf hF2
  rw [ha]
  simp only [slotsSt, List.foldl_cons, List.foldl_nil, Act.put, List.setIfInBounds_toArray, List.set_cons_succ, List.set_cons_zero, h7, h8]
  generalize slot a' 9 = s9
  generalize slot a' 10 = s10
  generalize slot a' 0 = s0
  clear ha h7 h8 hsz hdf hF2
  have hp' : w.heap.size + 1 + 1 + 1 ≤ p := by simpa using hp
  have hq' : w.heap.size + 1 + 1 + 1 ≤ q := by simpa using hq
  clear hp hq
  obtain ⟨lp, p0, p1, p2, p3, y0, y1, y2, y3⟩ := hP
  obtain ⟨lq, q0, q1, q2, q3, u0, u1, u2, u3⟩ := hO
  obtain ⟨hc4, hf4⟩ := bcell hb4; have hz4_0 : w.heap.size < w4.heap.size := lt_below hb4 ltg; have hl4_0 := Nat.le_of_lt hz4_0; have hz4_1 : w.heap.size + 1 < w4.heap.size := lt_below hb4 ltg; have hl4_1 := Nat.le_of_lt hz4_1; have hz4_2 : w.heap.size + 1 + 1 < w4.heap.size := lt_below hb4 ltg; have hl4_2 := Nat.le_of_lt hz4_2; have hA4 := bnext (w0 := w) bgo hb4; have hs4 := hA4.size; clear hb4
  go_wp2_with (go_at_call 86; refine (c2 _).mono ?_; rintro r w5 ⟨rfl, hb5⟩; obtain ⟨hc5, hf5⟩ := bcell hb5; have hz5_0 : w.heap.size < w5.heap.size := lt_below hb5 ltg; have hl5_0 := Nat.le_of_lt hz5_0; have hz5_1 : w.heap.size + 1 < w5.heap.size := lt_below hb5 ltg; have hl5_1 := Nat.le_of_lt hz5_1; have hz5_2 : w.heap.size + 1 + 1 < w5.heap.size := lt_below hb5 ltg; have hl5_2 := Nat.le_of_lt hz5_2; have hz5_3 : p < w5.heap.size := lt_below hb5 ltg; have hl5_3 := Nat.le_of_lt hz5_3; have hz5_4 : q < w5.heap.size := lt_below hb5 ltg; have hl5_4 := Nat.le_of_lt hz5_4; have hA5 := bnext (w0 := w) bgo hb5; have hs5 := hA5.size; clear hb5)
  exact bodyPost_ret (by simp only [results, Tryz.results43]; go_simp) rfl ⟨rfl, bgo⟩
set_option maxHeartbeats 8000000 in
theorem st_ft (V : Nat) (C : Int) (hc : (c == 2) = false)
    (c2 : ∀ W, Calls Tryz.prog 86 #[A4 B, A4 1] W fun r w' => r = .returned (.tuple #[A4 V, .int .u64 C]) ∧ Below W.heap.size W w') :
    Calls Tryz.prog 43 #[A4 B, OV c false g x k b, .bool true] w fun r w' => r = .returned (A4 V) ∧ Below w.heap.size w w' := by
  have hsm := cell_set_map
  unfold A4 at *
  go_enter Tryz.func43, Tryz.ntmps43
  go_wp2
  refine regSt (ga := w.heap.size) (X4 := B) rfl rfl (by first | omega | (simp; omega) | simp) (by go_simp) (by go_simp) (by go_simp) (by go_simp) c1 ?_
  intro a' w4 p q h7 h8 hne hp hq hP hO hsz hdf hF2 hb4
  have ha := act_of slotsSt 5 rfl hsz hdf hF2
  rw [ha]
  simp only [slotsSt, List.foldl_cons, List.foldl_nil, Act.put, List.setIfInBounds_toArray, List.set_cons_succ, List.set_cons_zero, h7, h8]
  generalize slot a' 9 = s9
  generalize slot a' 10 = s10
  generalize slot a' 0 = s0
  clear ha h7 h8 hsz hdf hF2
  have hp' : w.heap.size + 1 + 1 + 1 ≤ p := by simpa using hp
  have hq' : w.heap.size + 1 + 1 + 1 ≤ q := by simpa using hq
  clear hp hq
  obtain ⟨lp, p0, p1, p2, p3, y0, y1, y2, y3⟩ := hP
  obtain ⟨lq, q0, q1, q2, q3, u0, u1, u2, u3⟩ := hO
  obtain ⟨hc4, hf4⟩ := bcell hb4; have hz4_0 : w.heap.size < w4.heap.size := lt_below hb4 ltg; have hl4_0 := Nat.le_of_lt hz4_0; have hz4_1 : w.heap.size + 1 < w4.heap.size := lt_below hb4 ltg; have hl4_1 := Nat.le_of_lt hz4_1; have hz4_2 : w.heap.size + 1 + 1 < w4.heap.size := lt_below hb4 ltg; have hl4_2 := Nat.le_of_lt hz4_2; have hA4 := bnext (w0 := w) bgo hb4; have hs4 := hA4.size; clear hb4
  go_wp2_with (go_at_call 86; refine (c2 _).mono ?_; rintro r w5 ⟨rfl, hb5⟩; obtain ⟨hc5, hf5⟩ := bcell hb5; have hz5_0 : w.heap.size < w5.heap.size := lt_below hb5 ltg; have hl5_0 := Nat.le_of_lt hz5_0; have hz5_1 : w.heap.size + 1 < w5.heap.size := lt_below hb5 ltg; have hl5_1 := Nat.le_of_lt hz5_1; have hz5_2 : w.heap.size + 1 + 1 < w5.heap.size := lt_below hb5 ltg; have hl5_2 := Nat.le_of_lt hz5_2; have hz5_3 : p < w5.heap.size := lt_below hb5 ltg; have hl5_3 := Nat.le_of_lt hz5_3; have hz5_4 : q < w5.heap.size := lt_below hb5 ltg; have hl5_4 := Nat.le_of_lt hz5_4; have hA5 := bnext (w0 := w) bgo hb5; have hs5 := hA5.size; clear hb5)
  exact bodyPost_ret (by simp only [results, Tryz.results43]; go_simp) rfl ⟨rfl, bgo⟩
set_option maxHeartbeats 8000000 in
theorem st_tf2 (hc : (c == 2) = true) :
    Calls Tryz.prog 43 #[A4 B, OV c true g x k b, .bool false] w fun r w' => r = .returned (A4 B) ∧ Below w.heap.size w w' := by
  have hsm := cell_set_map
  unfold A4 at *
  go_enter Tryz.func43, Tryz.ntmps43
  go_wp2
  refine regSt (ga := w.heap.size) (X4 := B) rfl rfl (by first | omega | (simp; omega) | simp) (by go_simp) (by go_simp) (by go_simp) (by go_simp) c1 ?_
  intro a' w4 p q h7 h8 hne hp hq hP hO hsz hdf hF2 hb4
  have ha := act_of slotsSt 5 rfl hsz hdf hF2
  rw [ha]
  simp only [slotsSt, List.foldl_cons, List.foldl_nil, Act.put, List.setIfInBounds_toArray, List.set_cons_succ, List.set_cons_zero, h7, h8]
  generalize slot a' 9 = s9
  generalize slot a' 10 = s10
  generalize slot a' 0 = s0
  clear ha h7 h8 hsz hdf hF2
  have hp' : w.heap.size + 1 + 1 + 1 ≤ p := by simpa using hp
  have hq' : w.heap.size + 1 + 1 + 1 ≤ q := by simpa using hq
  clear hp hq
  obtain ⟨lp, p0, p1, p2, p3, y0, y1, y2, y3⟩ := hP
  obtain ⟨lq, q0, q1, q2, q3, u0, u1, u2, u3⟩ := hO
  obtain ⟨hc4, hf4⟩ := bcell hb4; have hz4_0 : w.heap.size < w4.heap.size := lt_below hb4 ltg; have hl4_0 := Nat.le_of_lt hz4_0; have hz4_1 : w.heap.size + 1 < w4.heap.size := lt_below hb4 ltg; have hl4_1 := Nat.le_of_lt hz4_1; have hz4_2 : w.heap.size + 1 + 1 < w4.heap.size := lt_below hb4 ltg; have hl4_2 := Nat.le_of_lt hz4_2; have hA4 := bnext (w0 := w) bgo hb4; have hs4 := hA4.size; clear hb4
  go_wp2
  exact bodyPost_ret (by simp only [results, Tryz.results43]; go_simp) rfl ⟨rfl, bgo⟩
set_option maxHeartbeats 8000000 in
theorem st_ft2 (hc : (c == 2) = true) :
    Calls Tryz.prog 43 #[A4 B, OV c false g x k b, .bool true] w fun r w' => r = .returned (A4 B) ∧ Below w.heap.size w w' := by
  have hsm := cell_set_map
  unfold A4 at *
  go_enter Tryz.func43, Tryz.ntmps43
  go_wp2
  refine regSt (ga := w.heap.size) (X4 := B) rfl rfl (by first | omega | (simp; omega) | simp) (by go_simp) (by go_simp) (by go_simp) (by go_simp) c1 ?_
  intro a' w4 p q h7 h8 hne hp hq hP hO hsz hdf hF2 hb4
  have ha := act_of slotsSt 5 rfl hsz hdf hF2
  rw [ha]
  simp only [slotsSt, List.foldl_cons, List.foldl_nil, Act.put, List.setIfInBounds_toArray, List.set_cons_succ, List.set_cons_zero, h7, h8]
  generalize slot a' 9 = s9
  generalize slot a' 10 = s10
  generalize slot a' 0 = s0
  clear ha h7 h8 hsz hdf hF2
  have hp' : w.heap.size + 1 + 1 + 1 ≤ p := by simpa using hp
  have hq' : w.heap.size + 1 + 1 + 1 ≤ q := by simpa using hq
  clear hp hq
  obtain ⟨lp, p0, p1, p2, p3, y0, y1, y2, y3⟩ := hP
  obtain ⟨lq, q0, q1, q2, q3, u0, u1, u2, u3⟩ := hO
  obtain ⟨hc4, hf4⟩ := bcell hb4; have hz4_0 : w.heap.size < w4.heap.size := lt_below hb4 ltg; have hl4_0 := Nat.le_of_lt hz4_0; have hz4_1 : w.heap.size + 1 < w4.heap.size := lt_below hb4 ltg; have hl4_1 := Nat.le_of_lt hz4_1; have hz4_2 : w.heap.size + 1 + 1 < w4.heap.size := lt_below hb4 ltg; have hl4_2 := Nat.le_of_lt hz4_2; have hA4 := bnext (w0 := w) bgo hb4; have hs4 := hA4.size; clear hb4
  go_wp2
  exact bodyPost_ret (by simp only [results, Tryz.results43]; go_simp) rfl ⟨rfl, bgo⟩
end
end
section
attribute [local irreducible] W4 Nt Nz NT
section
variable (n : Int) (B : Nat) (up : Bool) (c x b : Int) (s g : Bool) (k : Nat) (w : World) (hT : Tab w)
include hT
set_option maxHeartbeats 4000000 in
theorem on_e
    (c1 : ∀ W, Tab W → Calls Tryz.prog 40 #[.int .i64 n, A4 B] W fun r w' => r = .returned (.tuple #[OV c s g x k b, .int .i64 1]) ∧ Below W.heap.size W w') :
    Calls Tryz.prog 16 #[.int .i64 n, A4 B, .bool up] w fun r w' => r = .returned (.tuple #[A4 0, .int .i64 0, .int .i64 1]) ∧ Below w.heap.size w w' := by
  rw [Z4_eq]
  have hsm := cell_set_map
  go_enter Tryz.func16, Tryz.ntmps16
  go_wp2_with (go_at_call 40; refine (c1 _ (hT.go bgo)).mono ?_; rintro r w1 ⟨rfl, hb1⟩; obtain ⟨hc1, hf1⟩ := bcell hb1; have hz1_0 : w.heap.size < w1.heap.size := lt_below hb1 ltg; have hl1_0 := Nat.le_of_lt hz1_0; have hz1_1 : w.heap.size + 1 < w1.heap.size := lt_below hb1 ltg; have hl1_1 := Nat.le_of_lt hz1_1; have hA1 := bnext (w0 := w) bgo hb1; have hs1 := hA1.size; clear hb1)
  exact bodyPost_ret (by simp only [results, Tryz.results16]; go_simp) rfl ⟨rfl, bgo⟩
variable (c1 : ∀ W, Tab W → Calls Tryz.prog 40 #[.int .i64 n, A4 B] W fun r w' => r = .returned (.tuple #[OV c s g x k b, .int .i64 0]) ∧ Below W.heap.size W w')
include c1
set_option maxHeartbeats 4000000 in
theorem on_d (hb : (b != 2) = true) :
    Calls Tryz.prog 16 #[.int .i64 n, A4 B, .bool up] w fun r w' => r = .returned (.tuple #[A4 0, .int .i64 0, .int .i64 6]) ∧ Below w.heap.size w w' := by
  rw [Z4_eq]
  have hsm := cell_set_map
  go_enter Tryz.func16, Tryz.ntmps16
  go_wp2_with (go_at_call 40; refine (c1 _ (hT.go bgo)).mono ?_; rintro r w1 ⟨rfl, hb1⟩; obtain ⟨hc1, hf1⟩ := bcell hb1; have hz1_0 : w.heap.size < w1.heap.size := lt_below hb1 ltg; have hl1_0 := Nat.le_of_lt hz1_0; have hz1_1 : w.heap.size + 1 < w1.heap.size := lt_below hb1 ltg; have hl1_1 := Nat.le_of_lt hz1_1; have hA1 := bnext (w0 := w) bgo hb1; have hs1 := hA1.size; clear hb1)
  exact bodyPost_ret (by simp only [results, Tryz.results16]; go_simp) rfl ⟨rfl, bgo⟩
variable (hb : b = 2)
include hb
set_option maxHeartbeats 4000000 in
theorem on_q (hc : (c == 3) = true) (Q : Nat) (F E : Int)
    (c2 : ∀ W, Tab W → Calls Tryz.prog 41 #[.int .i64 n, A4 B, .bool g] W fun r w' => r = .returned (.tuple #[A4 Q, .int .i64 F, .int .i64 E]) ∧ Below W.heap.size W w') :
    Calls Tryz.prog 16 #[.int .i64 n, A4 B, .bool up] w fun r w' => r = .returned (.tuple #[A4 Q, .int .i64 F, .int .i64 E]) ∧ Below w.heap.size w w' := by
  subst hb
  have hsm := cell_set_map
  go_enter Tryz.func16, Tryz.ntmps16
  go_wp2_with (first
    | (go_at_call 40; refine (c1 _ (hT.go bgo)).mono ?_; rintro r w1 ⟨rfl, hb1⟩; obtain ⟨hc1, hf1⟩ := bcell hb1; have hz1_0 : w.heap.size < w1.heap.size := lt_below hb1 ltg; have hl1_0 := Nat.le_of_lt hz1_0; have hz1_1 : w.heap.size + 1 < w1.heap.size := lt_below hb1 ltg; have hl1_1 := Nat.le_of_lt hz1_1; have hA1 := bnext (w0 := w) bgo hb1; have hs1 := hA1.size; clear hb1)
    | (go_at_call 41; refine (c2 _ (hT.go bgo)).mono ?_; rintro r w2 ⟨rfl, hb2⟩; obtain ⟨hc2, hf2⟩ := bcell hb2; have hz2_0 : w.heap.size < w2.heap.size := lt_below hb2 ltg; have hl2_0 := Nat.le_of_lt hz2_0; have hz2_1 : w.heap.size + 1 < w2.heap.size := lt_below hb2 ltg; have hl2_1 := Nat.le_of_lt hz2_1; have hz2_2 : w1.heap.size < w2.heap.size := lt_below hb2 ltg; have hl2_2 := Nat.le_of_lt hz2_2; have hA2 := bnext (w0 := w) bgo hb2; have hs2 := hA2.size; clear hb2))
  exact bodyPost_ret (by simp only [results, Tryz.results16]; go_simp) rfl ⟨rfl, bgo⟩
variable (hc : (c == 3) = false)
include hc
set_option maxHeartbeats 4000000 in
theorem on_0 (V : Nat)
    (c2 : ∀ W, Calls Tryz.prog 31 #[OV c s g x k 2] W fun r w' => r = .returned (.bool true) ∧ Below W.heap.size W w')
    (c3 : ∀ W, Tab W → Calls Tryz.prog 42 #[.int .i64 n, .bool (!up)] W fun r w' => r = .returned (A4 V) ∧ Below W.heap.size W w') :
    Calls Tryz.prog 16 #[.int .i64 n, A4 B, .bool up] w fun r w' => r = .returned (.tuple #[A4 V, .int .i64 0, .int .i64 0]) ∧ Below w.heap.size w w' := by
  subst hb
  have hsm := cell_set_map
  go_enter Tryz.func16, Tryz.ntmps16
  go_wp2_with (first
    | (go_at_call 40; refine (c1 _ (hT.go bgo)).mono ?_; rintro r w1 ⟨rfl, hb1⟩; obtain ⟨hc1, hf1⟩ := bcell hb1; have hz1_0 : w.heap.size < w1.heap.size := lt_below hb1 ltg; have hl1_0 := Nat.le_of_lt hz1_0; have hz1_1 : w.heap.size + 1 < w1.heap.size := lt_below hb1 ltg; have hl1_1 := Nat.le_of_lt hz1_1; have hA1 := bnext (w0 := w) bgo hb1; have hs1 := hA1.size; clear hb1)
    | (go_at_call 31; refine (c2 _).mono ?_; rintro r w2 ⟨rfl, hb2⟩; obtain ⟨hc2, hf2⟩ := bcell hb2; have hz2_0 : w.heap.size < w2.heap.size := lt_below hb2 ltg; have hl2_0 := Nat.le_of_lt hz2_0; have hz2_1 : w.heap.size + 1 < w2.heap.size := lt_below hb2 ltg; have hl2_1 := Nat.le_of_lt hz2_1; have hz2_2 : w1.heap.size < w2.heap.size := lt_below hb2 ltg; have hl2_2 := Nat.le_of_lt hz2_2; have hA2 := bnext (w0 := w) bgo hb2; have hs2 := hA2.size; clear hb2)
    | (go_at_call 42; refine (c3 _ (hT.go bgo)).mono ?_; rintro r w3 ⟨rfl, hb3⟩; obtain ⟨hc3, hf3⟩ := bcell hb3; have hz3_0 : w.heap.size < w3.heap.size := lt_below hb3 ltg; have hl3_0 := Nat.le_of_lt hz3_0; have hz3_1 : w.heap.size + 1 < w3.heap.size := lt_below hb3 ltg; have hl3_1 := Nat.le_of_lt hz3_1; have hz3_2 : w1.heap.size < w3.heap.size := lt_below hb3 ltg; have hl3_2 := Nat.le_of_lt hz3_2; have hA3 := bnext (w0 := w) bgo hb3; have hs3 := hA3.size; clear hb3))
  exact bodyPost_ret (by simp only [results, Tryz.results16]; go_simp) rfl ⟨rfl, bgo⟩
set_option maxHeartbeats 4000000 in
theorem on_s (V : Nat)
    (c2 : ∀ W, Calls Tryz.prog 31 #[OV c s g x k 2] W fun r w' => r = .returned (.bool false) ∧ Below W.heap.size W w')
    (c3 : ∀ W, Calls Tryz.prog 43 #[A4 B, OV c s g x k 2, .bool up] W fun r w' => r = .returned (A4 V) ∧ Below W.heap.size W w') :
    Calls Tryz.prog 16 #[.int .i64 n, A4 B, .bool up] w fun r w' => r = .returned (.tuple #[A4 V, .int .i64 0, .int .i64 0]) ∧ Below w.heap.size w w' := by
  subst hb
  have hsm := cell_set_map
  go_enter Tryz.func16, Tryz.ntmps16
  go_wp2_with (first
    | (go_at_call 40; refine (c1 _ (hT.go bgo)).mono ?_; rintro r w1 ⟨rfl, hb1⟩; obtain ⟨hc1, hf1⟩ := bcell hb1; have hz1_0 : w.heap.size < w1.heap.size := lt_below hb1 ltg; have hl1_0 := Nat.le_of_lt hz1_0; have hz1_1 : w.heap.size + 1 < w1.heap.size := lt_below hb1 ltg; have hl1_1 := Nat.le_of_lt hz1_1; have hA1 := bnext (w0 := w) bgo hb1; have hs1 := hA1.size; clear hb1)
    | (go_at_call 31; refine (c2 _).mono ?_; rintro r w2 ⟨rfl, hb2⟩; obtain ⟨hc2, hf2⟩ := bcell hb2; have hz2_0 : w.heap.size < w2.heap.size := lt_below hb2 ltg; have hl2_0 := Nat.le_of_lt hz2_0; have hz2_1 : w.heap.size + 1 < w2.heap.size := lt_below hb2 ltg; have hl2_1 := Nat.le_of_lt hz2_1; have hz2_2 : w1.heap.size < w2.heap.size := lt_below hb2 ltg; have hl2_2 := Nat.le_of_lt hz2_2; have hA2 := bnext (w0 := w) bgo hb2; have hs2 := hA2.size; clear hb2)
    | (go_at_call 43; refine (c3 _).mono ?_; rintro r w3 ⟨rfl, hb3⟩; obtain ⟨hc3, hf3⟩ := bcell hb3; have hz3_0 : w.heap.size < w3.heap.size := lt_below hb3 ltg; have hl3_0 := Nat.le_of_lt hz3_0; have hz3_1 : w.heap.size + 1 < w3.heap.size := lt_below hb3 ltg; have hl3_1 := Nat.le_of_lt hz3_1; have hz3_2 : w1.heap.size < w3.heap.size := lt_below hb3 ltg; have hl3_2 := Nat.le_of_lt hz3_2; have hA3 := bnext (w0 := w) bgo hb3; have hs3 := hA3.size; clear hb3))
  exact bodyPost_ret (by simp only [results, Tryz.results16]; go_simp) rfl ⟨rfl, bgo⟩
end
end
/-- every pattern up to the infinite one's is a number's -/
theorem pat_is {n : Int} (hb : binN n) (s : Bool) {M : Nat} (hM : M ≤ tpN n) : goodN n (M + sgN n s) ∧ (unD n (M + sgN n s)).c ≠ 3 ∧ mg n (unD n (M + sgN n s)) = M ∧ (unD n (M + sgN n s)).s = s ∧ ((unD n (M + sgN n s)).c = 2 ↔ M = tpN n) := by
  obtain ⟨t1, t2, t3⟩ := top_is hb
  have hp0 := Nat.two_pow_pos (fN n)
  have hp : (2 : Nat) ^ (fN n + 1) = 2 ^ fN n + 2 ^ fN n := by rw [Nat.pow_succ]; omega
  by_cases h : M = tpN n
  · have hi : isD (fN n) (leastN n) (mostN n) ⟨2, s, false, 0, 0⟩ := Or.inr (Or.inl ⟨rfl, rfl, rfl, rfl⟩)
    obtain ⟨g1, g2⟩ := pk_good hb hi
    rw [pk_inf hb, ← h] at g1 g2
    rw [g2]
    exact ⟨g1, by show (2 : Int) ≠ 3; decide, by rw [h]; exact if_pos rfl, rfl, ⟨fun _ => h, fun _ => rfl⟩⟩
  · have hlt : M < tpN n := by omega
    have hdm := Nat.div_add_mod M (2 ^ fN n)
    have hmod := Nat.mod_lt M hp0
    generalize hE : M / 2 ^ fN n = E at *
    generalize hR : M % 2 ^ fN n = R at *
    rw [Nat.mul_comm] at hdm
    obtain ⟨x, k, hi, hv⟩ : ∃ (x : Int) (k : Nat), isD (fN n) (leastN n) (mostN n) ⟨1, s, false, x, k⟩ ∧ (x - leastN n).toNat * 2 ^ fN n + k = M := by
      by_cases h0 : E = 0
      · subst h0
        refine ⟨leastN n, M, Or.inl ⟨rfl, rfl, show M < 2 ^ (fN n + 1) by omega, Int.le_refl _, t3, Or.inr rfl⟩, ?_⟩
        rw [Int.sub_self]
        simp
      · obtain ⟨e, rfl⟩ : ∃ e, E = e + 1 := ⟨E - 1, by omega⟩
        rw [Nat.add_mul, Nat.one_mul] at hdm
        have hx : (e : Int) ≤ mostN n - leastN n := by
          refine Classical.byContradiction fun q => ?_
          have : ((mostN n - leastN n).toNat + 1) * 2 ^ fN n ≤ e * 2 ^ fN n := Nat.mul_le_mul_right _ (by omega)
          rw [Nat.add_mul, Nat.one_mul] at this
          omega
        refine ⟨leastN n + e, 2 ^ fN n + R, Or.inl ⟨rfl, rfl, show 2 ^ fN n + R < 2 ^ (fN n + 1) by omega, show leastN n ≤ leastN n + e by omega, show leastN n + e ≤ mostN n by omega, Or.inl (show 2 ^ fN n ≤ 2 ^ fN n + R by omega)⟩, ?_⟩
        rw [show (leastN n + (e : Int) - leastN n).toNat = e by omega]
        omega
    obtain ⟨g1, g2⟩ := pk_good hb hi
    rw [pk_fin hb hi, hv] at g1 g2
    rw [g2]
    have e1 := (mg_fin hb hi).1
    exact ⟨g1, by show (1 : Int) ≠ 3; decide, by rw [e1, hv], rfl, ⟨fun q => absurd (show (1 : Int) = 2 from q) (by decide), fun q => absurd q h⟩⟩
/-- the place of a pattern -/
def sg (n : Int) (B : Nat) : Int := smP n (unD n B)
theorem step_is {n : Int} {B : Nat} (hg : goodN n B) (h3 : (unD n B).c ≠ 3) (up : Bool) (hi : ¬ ((unD n B).c = 2 ∧ (unD n B).s ≠ up)) :
    goodN n (nxP n B up) ∧ (unD n (nxP n B up)).c ≠ 3 ∧ sg n (nxP n B up) = sg n B + (if up then 1 else -1) ∧ ((unD n (nxP n B up)).c = 2 → (unD n (nxP n B up)).s = !up) := by
  have hb := hg.1
  have hD := und_is hg
  obtain ⟨p1, p2⟩ := mg_pk hb hD h3
  rw [(back_un hg).2] at p1
  have z := mg_zero hb hD h3
  obtain ⟨t1, t2, t3⟩ := top_is hb
  have hp0 := Nat.two_pow_pos (fN n + 1)
  have hpat := fun s M hM => pat_is (n := n) hb s (M := M) hM
  have hinf : (unD n B).c = 2 → mg n (unD n B) = tpN n := fun q => if_pos q
  have hfin : (unD n B).c ≠ 2 → mg n (unD n B) < tpN n := fun q => by
    generalize unD n B = D at *
    obtain ⟨c, s, g, x, k⟩ := D
    rcases id hD with ⟨a1, a2, _⟩ | ⟨a1, _⟩ | ⟨a1, _⟩
    · dsimp only at a1 a2
      subst a1 a2
      exact (mg_fin hb hD).2.1
    · exact absurd a1 q
    · exact absurd a1 h3
  have key : ∀ (s : Bool) (M : Nat), M ≤ tpN n → nxP n B up = M + sgN n s → (if s then -(M : Int) else (M : Int)) = sg n B + (if up then 1 else -1) → (M = tpN n → s = !up) →
      goodN n (nxP n B up) ∧ (unD n (nxP n B up)).c ≠ 3 ∧ sg n (nxP n B up) = sg n B + (if up then 1 else -1) ∧ ((unD n (nxP n B up)).c = 2 → (unD n (nxP n B up)).s = !up) := fun s M hM he hv hs => by
    obtain ⟨g1, g2, g3, g4, g5⟩ := hpat s M hM
    rw [he]
    refine ⟨g1, g2, ?_, fun q => g4.trans (hs (g5.1 q))⟩
    rw [← hv]
    unfold sg smP oG
    rw [g3, g4]
    cases s
    · simp
    · simp
  have eS : sg n B = (if (unD n B).s then -(mg n (unD n B) : Int) else (mg n (unD n B) : Int)) := by
    unfold sg smP oG
    cases (unD n B).s
    · simp
    · simp
  unfold nxP at key ⊢
  by_cases h0 : (unD n B).c = 1 ∧ (unD n B).k = 0
  · rw [if_pos h0] at key ⊢
    have m0 := z.2 h0
    rw [m0] at eS
    refine key (!up) 1 (by omega) rfl ?_ (fun q => by omega)
    rw [eS]
    cases up <;> cases (unD n B).s <;> decide
  · rw [if_neg h0] at key ⊢
    have m0 : mg n (unD n B) ≠ 0 := fun q => h0 (z.1 q)
    by_cases hs : (unD n B).s = up
    · rw [if_pos hs] at key ⊢
      refine key (unD n B).s (mg n (unD n B) - 1) (by omega) (by omega) ?_ (fun q => by omega)
      rw [eS, hs]
      cases up
      · simp; omega
      · simp; omega
    · rw [if_neg hs] at key ⊢
      have hc2 : (unD n B).c ≠ 2 := fun q => hi ⟨q, hs⟩
      rw [if_neg hc2] at key ⊢
      have hl := hfin hc2
      refine key (unD n B).s (mg n (unD n B) + 1) (by omega) (by omega) ?_ (fun _ => by cases h' : (unD n B).s <;> cases up <;> first | rfl | exact absurd h' hs)
      rw [eS]
      cases h' : (unD n B).s <;> cases up <;> first | exact absurd h' hs | (simp; try omega)
section
attribute [local irreducible] W4
section
variable (TT : World → Prop) (hTT : ∀ w w', TT w → Below w.heap.size w w' → TT w') (w : World) (hT : TT w)
  (c8 : ∀ W, TT W → Calls Tryz.prog 8 #[] W fun r w' => r = .returned (.bool true) ∧ Below W.heap.size W w')
  (n : Int) (Bp : Nat) (up : Bool) (c x : Int) (s g : Bool) (k : Nat) (E : Int)
  (c9 : ∀ W, Calls Tryz.prog 18 #[.int .i64 n, A4 Bp] W fun r w' => r = .returned (.tuple #[DV c s g x k, .int .i64 E]) ∧ Below W.heap.size W w')
include hTT hT c8 c9
set_option maxHeartbeats 4000000 in
theorem st20_e (h : (E != 0) = true ∨ ((E != 0) = false ∧ c = 3)) :
    Calls Tryz.prog 6 #[.int .i64 n, A4 Bp, .bool up] w fun r w' => r = .returned (.bool true) ∧ Below w.heap.size w w' := by
  have hsm := cell_set_map
  unfold DV A4 at *
  rcases h with h | ⟨h, rfl⟩
  all_goals (
    go_enter Tryz.func6, Tryz.ntmps6
    go_wp2_with (first
      | (go_at_call 8; refine (c8 _ (hTT _ _ hT bgo)).mono ?_; rintro r w1 ⟨rfl, hb1⟩; obtain ⟨hc1, hf1⟩ := bcell hb1; have hz1_0 : w.heap.size < w1.heap.size := lt_below hb1 ltg; have hl1_0 := Nat.le_of_lt hz1_0; have hA1 := bnext (w0 := w) bgo hb1; have hs1 := hA1.size; clear hb1)
      | (go_at_call 18; refine (c9 _).mono ?_; rintro r w2 ⟨rfl, hb2⟩; obtain ⟨hc2, hf2⟩ := bcell hb2; have hz2_0 : w.heap.size < w2.heap.size := lt_below hb2 ltg; have hl2_0 := Nat.le_of_lt hz2_0; have hA2 := bnext (w0 := w) bgo hb2; have hs2 := hA2.size; clear hb2))
    go_ret
    exact ⟨by first | rfl | simp, bgo⟩)
variable (hE : (E != 0) = false) (V : Nat) (X ex : Int)
  (c10 : ∀ W, TT W → Calls Tryz.prog 16 #[.int .i64 n, A4 Bp, .bool up] W fun r w' => r = .returned (.tuple #[A4 V, .int .i64 0, .int .i64 0]) ∧ Below W.heap.size W w')
  (c11 : ∀ W, TT W → Calls Tryz.prog 11 #[.int .i64 n, A4 Bp, A4 V] W fun r w' => r = .returned (.tuple #[.int .i64 X, .bool true, .int .i64 ex]) ∧ Below W.heap.size W w')
include hE c10 c11
set_option maxHeartbeats 4000000 in
theorem st20_i (hc : c = 2) (hs : s = !up) (hV : V = Bp) :
    Calls Tryz.prog 6 #[.int .i64 n, A4 Bp, .bool up] w fun r w' => r = .returned (.bool true) ∧ Below w.heap.size w w' := by
  subst hc hs hV
  have hsm := cell_set_map
  have e1 := eq24 (W4 V 0) (W4 V 1) (W4 V 2) (W4 V 3) (W4 V 0) (W4 V 1) (W4 V 2) (W4 V 3)
  rw [decide_eq_true ⟨rfl, rfl, rfl, rfl⟩] at e1
  unfold DV A4 at *
  cases up
  all_goals (
    go_enter Tryz.func6, Tryz.ntmps6
    go_wp2_with (first
      | (go_at_call 8; refine (c8 _ (hTT _ _ hT bgo)).mono ?_; rintro r w1 ⟨rfl, hb1⟩; obtain ⟨hc1, hf1⟩ := bcell hb1; have hz1_0 : w.heap.size < w1.heap.size := lt_below hb1 ltg; have hl1_0 := Nat.le_of_lt hz1_0; have hA1 := bnext (w0 := w) bgo hb1; have hs1 := hA1.size; clear hb1)
      | (go_at_call 18; refine (c9 _).mono ?_; rintro r w2 ⟨rfl, hb2⟩; obtain ⟨hc2, hf2⟩ := bcell hb2; have hz2_0 : w.heap.size < w2.heap.size := lt_below hb2 ltg; have hl2_0 := Nat.le_of_lt hz2_0; have hA2 := bnext (w0 := w) bgo hb2; have hs2 := hA2.size; clear hb2)
      | (go_at_call 16; refine (c10 _ (hTT _ _ hT bgo)).mono ?_; rintro r w3 ⟨rfl, hb3⟩; obtain ⟨hc3, hf3⟩ := bcell hb3; have hz3_0 : w.heap.size < w3.heap.size := lt_below hb3 ltg; have hl3_0 := Nat.le_of_lt hz3_0; have hz3_1 : w2.heap.size < w3.heap.size := lt_below hb3 ltg; have hl3_1 := Nat.le_of_lt hz3_1; have hA3 := bnext (w0 := w) bgo hb3; have hs3 := hA3.size; clear hb3)
      | (go_at_call 11; refine (c11 _ (hTT _ _ hT bgo)).mono ?_; rintro r w4 ⟨rfl, hb4⟩; obtain ⟨hc4, hf4⟩ := bcell hb4; have hz4_0 : w.heap.size < w4.heap.size := lt_below hb4 ltg; have hl4_0 := Nat.le_of_lt hz4_0; have hz4_1 : w2.heap.size < w4.heap.size := lt_below hb4 ltg; have hl4_1 := Nat.le_of_lt hz4_1; have hz4_2 : w3.heap.size < w4.heap.size := lt_below hb4 ltg; have hl4_2 := Nat.le_of_lt hz4_2; have hA4 := bnext (w0 := w) bgo hb4; have hs4 := hA4.size; clear hb4))
    go_ret
    exact ⟨by first | rfl | simp, bgo⟩)
set_option maxHeartbeats 8000000 in
theorem st20_y (hc3 : (c == 3) = false) (hi : (c == 2) = false ∨ (c = 2 ∧ s = up)) (hX : X = if up then -1 else 1) (U : Nat) (F G ey : Int) (oy : Bool)
    (c12 : ∀ W, TT W → Calls Tryz.prog 16 #[.int .i64 n, A4 V, .bool (!up)] W fun r w' => r = .returned (.tuple #[A4 U, .int .i64 F, .int .i64 G]) ∧ Below W.heap.size W w')
    (c13 : ∀ W, TT W → Calls Tryz.prog 11 #[.int .i64 n, A4 Bp, A4 U] W fun r w' => r = .returned (.tuple #[.int .i64 0, .bool oy, .int .i64 ey]) ∧ Below W.heap.size W w') :
    Calls Tryz.prog 6 #[.int .i64 n, A4 Bp, .bool up] w fun r w' => r = .returned (.bool true) ∧ Below w.heap.size w w' := by
  subst hX
  have hsm := cell_set_map
  unfold DV A4 at *
  rcases hi with hi | ⟨rfl, rfl⟩
  · cases up
    all_goals (
      simp only [if_true, Bool.false_eq_true, if_false] at c11
      go_enter Tryz.func6, Tryz.ntmps6
      go_wp2_with (first
        | (go_at_call 8; refine (c8 _ (hTT _ _ hT bgo)).mono ?_; rintro r w1 ⟨rfl, hb1⟩; obtain ⟨hc1, hf1⟩ := bcell hb1; have hz1_0 : w.heap.size < w1.heap.size := lt_below hb1 ltg; have hl1_0 := Nat.le_of_lt hz1_0; have hA1 := bnext (w0 := w) bgo hb1; have hs1 := hA1.size; clear hb1)
        | (go_at_call 18; refine (c9 _).mono ?_; rintro r w2 ⟨rfl, hb2⟩; obtain ⟨hc2, hf2⟩ := bcell hb2; have hz2_0 : w.heap.size < w2.heap.size := lt_below hb2 ltg; have hl2_0 := Nat.le_of_lt hz2_0; have hA2 := bnext (w0 := w) bgo hb2; have hs2 := hA2.size; clear hb2)
        | (have := hA4; go_at_call 16; refine (c12 _ (hTT _ _ hT bgo)).mono ?_; rintro r w5 ⟨rfl, hb5⟩; obtain ⟨hc5, hf5⟩ := bcell hb5; have hz5_0 : w.heap.size < w5.heap.size := lt_below hb5 ltg; have hl5_0 := Nat.le_of_lt hz5_0; have hz5_1 : w2.heap.size < w5.heap.size := lt_below hb5 ltg; have hl5_1 := Nat.le_of_lt hz5_1; have hz5_2 : w3.heap.size < w5.heap.size := lt_below hb5 ltg; have hl5_2 := Nat.le_of_lt hz5_2; have hA5 := bnext (w0 := w) bgo hb5; have hs5 := hA5.size; clear hb5)
        | (go_at_call 16; refine (c10 _ (hTT _ _ hT bgo)).mono ?_; rintro r w3 ⟨rfl, hb3⟩; obtain ⟨hc3, hf3⟩ := bcell hb3; have hz3_0 : w.heap.size < w3.heap.size := lt_below hb3 ltg; have hl3_0 := Nat.le_of_lt hz3_0; have hz3_1 : w2.heap.size < w3.heap.size := lt_below hb3 ltg; have hl3_1 := Nat.le_of_lt hz3_1; have hA3 := bnext (w0 := w) bgo hb3; have hs3 := hA3.size; clear hb3)
        | (have := hA5; go_at_call 11; refine (c13 _ (hTT _ _ hT bgo)).mono ?_; rintro r w6 ⟨rfl, hb6⟩; obtain ⟨hc6, hf6⟩ := bcell hb6; have hz6_0 : w.heap.size < w6.heap.size := lt_below hb6 ltg; have hl6_0 := Nat.le_of_lt hz6_0; have hz6_1 : w2.heap.size < w6.heap.size := lt_below hb6 ltg; have hl6_1 := Nat.le_of_lt hz6_1; have hz6_2 : w3.heap.size < w6.heap.size := lt_below hb6 ltg; have hl6_2 := Nat.le_of_lt hz6_2; have hz6_3 : w5.heap.size < w6.heap.size := lt_below hb6 ltg; have hl6_3 := Nat.le_of_lt hz6_3; have hA6 := bnext (w0 := w) bgo hb6; have hs6 := hA6.size; clear hb6)
        | (go_at_call 11; refine (c11 _ (hTT _ _ hT bgo)).mono ?_; rintro r w4 ⟨rfl, hb4⟩; obtain ⟨hc4, hf4⟩ := bcell hb4; have hz4_0 : w.heap.size < w4.heap.size := lt_below hb4 ltg; have hl4_0 := Nat.le_of_lt hz4_0; have hz4_1 : w2.heap.size < w4.heap.size := lt_below hb4 ltg; have hl4_1 := Nat.le_of_lt hz4_1; have hz4_2 : w3.heap.size < w4.heap.size := lt_below hb4 ltg; have hl4_2 := Nat.le_of_lt hz4_2; have hA4 := bnext (w0 := w) bgo hb4; have hs4 := hA4.size; clear hb4))
      go_ret
      exact ⟨by first | rfl | simp, bgo⟩)
  · cases s
    all_goals (
      simp only [if_true, Bool.false_eq_true, if_false] at c11
      go_enter Tryz.func6, Tryz.ntmps6
      go_wp2_with (first
        | (go_at_call 8; refine (c8 _ (hTT _ _ hT bgo)).mono ?_; rintro r w1 ⟨rfl, hb1⟩; obtain ⟨hc1, hf1⟩ := bcell hb1; have hz1_0 : w.heap.size < w1.heap.size := lt_below hb1 ltg; have hl1_0 := Nat.le_of_lt hz1_0; have hA1 := bnext (w0 := w) bgo hb1; have hs1 := hA1.size; clear hb1)
        | (go_at_call 18; refine (c9 _).mono ?_; rintro r w2 ⟨rfl, hb2⟩; obtain ⟨hc2, hf2⟩ := bcell hb2; have hz2_0 : w.heap.size < w2.heap.size := lt_below hb2 ltg; have hl2_0 := Nat.le_of_lt hz2_0; have hA2 := bnext (w0 := w) bgo hb2; have hs2 := hA2.size; clear hb2)
        | (have := hA4; go_at_call 16; refine (c12 _ (hTT _ _ hT bgo)).mono ?_; rintro r w5 ⟨rfl, hb5⟩; obtain ⟨hc5, hf5⟩ := bcell hb5; have hz5_0 : w.heap.size < w5.heap.size := lt_below hb5 ltg; have hl5_0 := Nat.le_of_lt hz5_0; have hz5_1 : w2.heap.size < w5.heap.size := lt_below hb5 ltg; have hl5_1 := Nat.le_of_lt hz5_1; have hz5_2 : w3.heap.size < w5.heap.size := lt_below hb5 ltg; have hl5_2 := Nat.le_of_lt hz5_2; have hA5 := bnext (w0 := w) bgo hb5; have hs5 := hA5.size; clear hb5)
        | (go_at_call 16; refine (c10 _ (hTT _ _ hT bgo)).mono ?_; rintro r w3 ⟨rfl, hb3⟩; obtain ⟨hc3, hf3⟩ := bcell hb3; have hz3_0 : w.heap.size < w3.heap.size := lt_below hb3 ltg; have hl3_0 := Nat.le_of_lt hz3_0; have hz3_1 : w2.heap.size < w3.heap.size := lt_below hb3 ltg; have hl3_1 := Nat.le_of_lt hz3_1; have hA3 := bnext (w0 := w) bgo hb3; have hs3 := hA3.size; clear hb3)
        | (have := hA5; go_at_call 11; refine (c13 _ (hTT _ _ hT bgo)).mono ?_; rintro r w6 ⟨rfl, hb6⟩; obtain ⟨hc6, hf6⟩ := bcell hb6; have hz6_0 : w.heap.size < w6.heap.size := lt_below hb6 ltg; have hl6_0 := Nat.le_of_lt hz6_0; have hz6_1 : w2.heap.size < w6.heap.size := lt_below hb6 ltg; have hl6_1 := Nat.le_of_lt hz6_1; have hz6_2 : w3.heap.size < w6.heap.size := lt_below hb6 ltg; have hl6_2 := Nat.le_of_lt hz6_2; have hz6_3 : w5.heap.size < w6.heap.size := lt_below hb6 ltg; have hl6_3 := Nat.le_of_lt hz6_3; have hA6 := bnext (w0 := w) bgo hb6; have hs6 := hA6.size; clear hb6)
        | (go_at_call 11; refine (c11 _ (hTT _ _ hT bgo)).mono ?_; rintro r w4 ⟨rfl, hb4⟩; obtain ⟨hc4, hf4⟩ := bcell hb4; have hz4_0 : w.heap.size < w4.heap.size := lt_below hb4 ltg; have hl4_0 := Nat.le_of_lt hz4_0; have hz4_1 : w2.heap.size < w4.heap.size := lt_below hb4 ltg; have hl4_1 := Nat.le_of_lt hz4_1; have hz4_2 : w3.heap.size < w4.heap.size := lt_below hb4 ltg; have hl4_2 := Nat.le_of_lt hz4_2; have hA4 := bnext (w0 := w) bgo hb4; have hs4 := hA4.size; clear hb4))
      go_ret
      exact ⟨by first | rfl | simp, bgo⟩)
end
theorem mc_sg {n : Int} {A B : Nat} (ha : goodN n A) (hb : goodN n B) (h3 : (unD n A).c ≠ 3) (h3' : (unD n B).c ≠ 3) : oMc n A n B = sgn (sg n A) (sg n B) ∧ oMo n A n B = true := by
  have e1 : mE n A = 0 := by unfold mE; rw [if_pos ha.1]; exact if_pos ha
  have e2 : mE n B = 0 := by unfold mE; rw [if_pos ha.1]; exact if_pos hb
  have d1 : mD n A = unD n A := if_pos ha.1
  have d2 : mD n B = unD n B := if_pos ha.1
  have x2 : mX n = 2 := if_pos ha.1
  have q1 : ¬ (mE n A ≠ 0 ∨ mE n B ≠ 0) := by omega
  have q2 : ¬ ((mD n A).c = 3 ∨ (mD n B).c = 3) := by rw [d1, d2]; exact fun q => q.elim h3 h3'
  constructor
  · unfold oMc
    rw [if_neg q1, if_neg q2, d1, d2, x2]
    exact oV_sm ha.1 (und_is ha) (und_is hb) h3 h3'
  · unfold oMo
    rw [if_neg q1, if_neg q2]
theorem steps20_v {TT : World → Prop} (h : OrdC TT) (hN : OrdN TT) (n : Int) (Bp : Nat) (up : Bool) (w : World) (hT : TT w) (hB : Bp < 2 ^ 256) :
    Calls Tryz.prog 6 #[.int .i64 n, A4 Bp, .bool up] w fun r w' => r = .returned (.bool true) ∧ Below w.heap.size w w' := by
  have c8 := fun W hW => awake20 h W hW
  have c9 := fun W => runpack_any n Bp W hB
  by_cases hg : goodN n Bp
  · by_cases h3 : (unD n Bp).c = 3
    · exact st20_e TT h.next w hT c8 n Bp up _ _ _ _ _ _ c9 (Or.inr ⟨by rw [show unE n Bp = 0 from if_pos hg]; rfl, h3⟩)
    · have hE0 : (unE n Bp != 0) = false := by rw [show unE n Bp = 0 from if_pos hg]; rfl
      have val : ∀ B (up : Bool), goodN n B → (unD n B).c ≠ 3 → nxV n B up = nxP n B up ∧ nxF n B = 0 ∧ nxE n B = 0 := fun B up q p => by
        refine ⟨?_, if_neg (fun r => p r.2.1), ?_⟩
        · unfold nxV; rw [if_pos q, if_neg p]
        · unfold nxE; rw [if_pos ((fit_good q.1 B).2 q), if_pos q.1]
      obtain ⟨v1, v2, v3⟩ := val Bp up hg h3
      have c10 := fun W hW => hN.nx n Bp up W hB hW
      rw [v1, v2, v3] at c10
      by_cases hi : (unD n Bp).c = 2 ∧ (unD n Bp).s ≠ up
      · have eP : nxP n Bp up = Bp := by
          unfold nxP
          rw [if_neg (fun q => by have := hi.1; omega), if_neg hi.2, if_pos hi.1]
        rw [eP] at c10
        have c11 := fun W hW => h.cm n Bp Bp W hB hB hW
        rw [(mc_sg hg hg h3 h3).2] at c11
        exact st20_i TT h.next w hT c8 n Bp up _ _ _ _ _ _ c9 hE0 Bp _ _ c10 c11 hi.1 (by have := hi.2; revert this; cases (unD n Bp).s <;> cases up <;> decide) rfl
      · obtain ⟨g1, g2, g3, g4⟩ := step_is hg h3 up hi
        have hV := good_256 g1
        have hi' : ¬ ((unD n (nxP n Bp up)).c = 2 ∧ (unD n (nxP n Bp up)).s ≠ !up) := fun q => q.2 (g4 q.1)
        obtain ⟨u1, u2, u3, u4⟩ := step_is g1 g2 (!up) hi'
        have hU := good_256 u1
        obtain ⟨y1, y2, y3⟩ := val (nxP n Bp up) (!up) g1 g2
        have c11 := fun W hW => h.cm n Bp (nxP n Bp up) W hB hV hW
        obtain ⟨m1, m2⟩ := mc_sg hg g1 h3 g2
        rw [m2] at c11
        have c12 := fun W hW => hN.nx n (nxP n Bp up) (!up) W hV hW
        rw [y1] at c12
        have c13 := fun W hW => h.cm n Bp (nxP n (nxP n Bp up) (!up)) W hB hU hW
        obtain ⟨m3, m4⟩ := mc_sg hg u1 h3 u2
        have z : oMc n Bp n (nxP n (nxP n Bp up) (!up)) = 0 := by
          rw [m3, u3, g3]
          cases up
          · rw [show sg n Bp + (if false = true then 1 else -1) + (if (!false) = true then 1 else -1) = sg n Bp by simp; omega, sgn_self]
          · rw [show sg n Bp + (if true = true then 1 else -1) + (if (!true) = true then 1 else -1) = sg n Bp by simp; omega, sgn_self]
        rw [z] at c13
        refine st20_y TT h.next w hT c8 n Bp up _ _ _ _ _ _ c9 hE0 _ _ _ c10 c11 (by simpa using h3) ?_ ?_ _ _ _ _ _ c12 c13
        · by_cases q : (unD n Bp).c = 2
          · exact Or.inr ⟨q, Classical.byContradiction fun p => hi ⟨q, p⟩⟩
          · exact Or.inl (by simpa using q)
        · rw [m1, g3]
          unfold sgn
          cases up
          · rw [if_neg (by simp; omega), if_pos (by simp; omega)]; rfl
          · rw [if_pos (by simp; omega)]; rfl
  · exact st20_e TT h.next w hT c8 n Bp up _ _ _ _ _ _ c9 (Or.inl (by rw [show unE n Bp = 1 from if_neg hg]; rfl))
end
section
attribute [local irreducible] W4 Nt Nz NT
theorem mE_fits (n : Int) (B : Nat) : mE n B = 0 ↔ okN n ∧ B < 2 ^ (widthN n).toNat := by
  unfold mE
  by_cases hb : binN n
  · rw [if_pos hb, fit_good hb B]
    unfold unE
    split <;> simp [*]
  · rw [if_neg hb]
    by_cases hd : decN n
    · obtain ⟨h1, _, _, hw, _⟩ := dec_fields hd
      have e : goodD n B ↔ okN n ∧ B < 2 ^ (widthN n).toNat := by
        rw [hw, Int.toNat_natCast]
        exact ⟨fun q => ⟨h1, q.2⟩, fun q => ⟨hd, q.2⟩⟩
      rw [← e]
      unfold vUE
      by_cases q : goodD n B
      · rw [if_pos q]; exact ⟨fun _ => q, fun _ => rfl⟩
      · rw [if_neg q]; exact ⟨fun h => absurd h (by decide), fun h => absurd h q⟩
    · have e : ¬ okN n := fun h => by unfold okN at h; unfold binN at hb; unfold decN at hd; omega
      have e2 : ¬ goodD n B := fun h => hd h.1
      unfold vUE
      rw [if_neg e2]
      exact ⟨fun h => absurd h (by decide), fun h => absurd h.1 e⟩
theorem pos_of {n : Int} {B : Nat} (hg : goodN n B) (h0 : ¬ nghtD (unD n B)) (h3 : (unD n B).c ≠ 3) : 1 ≤ B := by
  have hi := und_is hg
  have hpk := (back_un hg).2
  generalize unD n B = D at *
  obtain ⟨c, s, g, x, k⟩ := D
  rcases id hi with ⟨h1, h2, b1, b2, b3, b4⟩ | ⟨h1, h2, b1, b2⟩ | ⟨h1, _⟩
  · dsimp only at h1 h2
    subst h1 h2
    have hk : k ≠ 0 := fun q => h0 ⟨rfl, q⟩
    rw [← hpk, pk_fin hg.1 hi]
    omega
  · dsimp only at h1 h2 b1 b2
    subst h1 h2 b1 b2
    rw [← hpk, pk_inf hg.1]
    have : 1 ≤ tpN n := by rcases bin_cases hg.1 with rfl | rfl | rfl | rfl | rfl | rfl <;> decide
    omega
  · exact absurd h1 h3
theorem ord_nx (n : Int) (B : Nat) (up : Bool) (w : World) (hB : B < 2 ^ 256) (hT : Tab w) :
    Calls Tryz.prog 16 #[.int .i64 n, A4 B, .bool up] w fun r w' => r = .returned (.tuple #[A4 (nxV n B up), .int .i64 (nxF n B), .int .i64 (nxE n B)]) ∧ Below w.heap.size w w' := by
  obtain ⟨c, s, g, x, k, b, e1, cU⟩ := unp_v n B w hT hB
  unfold nxE
  by_cases hm : mE n B = 0
  · rw [if_pos ((mE_fits n B).1 hm)]
    rw [e1 hm, hm] at cU
    by_cases hb : binN n
    · have hg : goodN n B := (fit_good hb B).1 ((mE_fits n B).1 hm)
      have eD : mD n B = unD n B := if_pos hb
      have eX : mX n = 2 := if_pos hb
      rw [if_pos hb]
      rw [eD, eX] at cU
      have hk := unD_k n B
      by_cases h3 : (unD n B).c = 3
      · have eV : nxV n B up = quV n B := by unfold nxV; rw [if_pos hg, if_pos h3]
        have eF : nxF n B = if (unD n B).g then 1 else 0 := by
          unfold nxF
          cases (unD n B).g
          · rw [if_neg (fun q => by exact absurd q.2.2 (by decide))]; rfl
          · rw [if_pos ⟨hg, h3, rfl⟩]; rfl
        rw [eV, eF]
        have cq := fun W hW => oq_l n B (unD n B).g (quV n B) (quE n B) W hW (fun W' h => qu_any n B W' h hB)
        rw [(qu_self hg).2.1] at cq
        exact on_q n B up _ _ _ _ _ _ w hT cU rfl (by rw [h3]; rfl) _ _ _ cq
      · have eV : nxV n B up = nxP n B up := by unfold nxV; rw [if_pos hg, if_neg h3]
        have eF : nxF n B = 0 := if_neg (fun q => h3 q.2.1)
        have h3' : ((unD n B).c == 3) = false := by simpa using h3
        have cN := fun W => ont_v (unD n B).c (unD n B).x 2 (unD n B).s (unD n B).g (unD n B).k hk W
        rw [eV, eF]
        unfold nxP
        by_cases h0 : nghtD (unD n B)
        · rw [if_pos (show (unD n B).c = 1 ∧ (unD n B).k = 0 from h0)]
          have d1 : decide ((unD n B).c = 1 ∧ (unD n B).k = 0) = true := decide_eq_true h0
          rw [d1] at cN
          have c4 := fun W hW => ofv_any n W hW
          rw [← nx_zero hb (!up)]
          exact on_0 n B up _ _ _ _ _ _ w hT cU rfl h3' _ cN (fun W hW => osm_l n (!up) _ _ _ _ _ _ _ _ _ _ _ _ _ W hW c4 (fun W' h => pack_any n ⟨1, !up, false, leastN n, 1⟩ W' h (show (1 : Nat) < 2 ^ 256 by decide)))
        · rw [if_neg (show ¬ ((unD n B).c = 1 ∧ (unD n B).k = 0) from h0)]
          have d1 : decide ((unD n B).c = 1 ∧ (unD n B).k = 0) = false := decide_eq_false h0
          rw [d1] at cN
          have hpos := pos_of hg h0 h3
          have cO := fun W => of4 1 W (by decide)
          have cS := fun W => sub4 B 1 W hB (by decide)
          rw [A4_sub hpos] at cS
          have cA := fun W => add4 B 1 W hB (by decide)
          refine on_s n B up _ _ _ _ _ _ w hT cU rfl h3' _ cN (fun W => ?_)
          generalize (unD n B).c = c at *
          generalize (unD n B).s = s at *
          by_cases hs : s = up
          · rw [if_pos hs]
            subst hs
            cases s
            · exact st_ff B c _ _ _ _ W cO _ _ cS
            · exact st_tt B c _ _ _ _ W cO _ _ cS
          · rw [if_neg hs]
            by_cases hc : c = 2
            · rw [if_pos hc]
              have hc' : (c == 2) = true := by rw [hc]; rfl
              revert hs
              cases s <;> cases up <;> intro hs
              · exact absurd rfl hs
              · exact st_ft2 B c _ _ _ _ W cO hc'
              · exact st_tf2 B c _ _ _ _ W cO hc'
              · exact absurd rfl hs
            · rw [if_neg hc]
              have hc' : (c == 2) = false := by simpa using hc
              revert hs
              cases s <;> cases up <;> intro hs
              · exact absurd rfl hs
              · exact st_ft B c _ _ _ _ W cO _ _ hc' cA
              · exact st_tf B c _ _ _ _ W cO _ _ hc' cA
              · exact absurd rfl hs
    · have hg : ¬ goodN n B := fun h => hb h.1
      have eX : mX n = 10 := if_neg hb
      have eV : nxV n B up = 0 := if_neg hg
      have eF : nxF n B = 0 := if_neg (fun q => hg q.1)
      rw [if_neg hb, eV, eF]
      rw [eX] at cU
      exact on_d n B up _ _ _ _ _ _ w hT cU rfl
  · have hn : ¬ (okN n ∧ B < 2 ^ (widthN n).toNat) := fun h => hm ((mE_fits n B).2 h)
    have hg : ¬ goodN n B := fun h => hn ((fit_good h.1 B).2 h)
    have eV : nxV n B up = 0 := if_neg hg
    have eF : nxF n B = 0 := if_neg (fun q => hg q.1)
    rw [if_neg hn, eV, eF]
    rw [(mE_or n B).resolve_left hm] at cU
    exact on_e n B up _ _ _ _ _ _ w hT cU
theorem ordN : OrdN Tab := ⟨fun n B up W hB hT => ord_nx n B up W hB hT⟩
theorem orderNext_any (n : Int) (Bp : Nat) (up : Bool) (w : World) (hT : Tab w) (hB : Bp < 2 ^ 256) :
    Calls Tryz.prog 5 #[.int .i64 n, A4 Bp, .bool up] w fun r w' => r = .returned (.bool true) ∧ Below w.heap.size w w' := by
  exact next20_v ordC ordN n Bp up w hT hB
theorem orderSteps_any (n : Int) (Bp : Nat) (up : Bool) (w : World) (hT : Tab w) (hB : Bp < 2 ^ 256) :
    Calls Tryz.prog 6 #[.int .i64 n, A4 Bp, .bool up] w fun r w' => r = .returned (.bool true) ∧ Below w.heap.size w w' := by
  exact steps20_v ordC ordN n Bp up w hT hB
end
end Go.Proofs.YtgknbdehlmlipaaGreatDoor
