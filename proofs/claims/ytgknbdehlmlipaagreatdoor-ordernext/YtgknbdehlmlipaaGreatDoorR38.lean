/-
  Texts that the proof leans on.
-/
import Derived.Test.YtgknbdehlmlipaaGreatDoorR31
import Derived.Test.YtgknbdehlmlipaaGreatDoorR26
import Derived.Test.YtgknbdehlmlipaaGreatDoorR12
import Derived.Test.YtgknbdehlmlipaaGreatDoorR6
set_option linter.unusedVariables false
set_option linter.unusedSectionVars false
set_option linter.unusedSimpArgs false
set_option maxRecDepth 20000
namespace Go.Proofs.YtgknbdehlmlipaaGreatDoor
open Go.RowKit
section
theorem nv_one_drew {W : World} {g V : Nat} {vi : Int} (hg : g = W.heap.size) (hv : vi = (V : Int)) (hb : V < 18446744073709551616) : NV 1 V (.slice (some ⟨g, 0, none⟩) 1 1) (W.alloc (.cells #[.int .u64 vi] 22)).drew :=
  (nv_one hg hv hb).next (Below.refl _ _).drew
attribute [local irreducible] W4 NT NV

/-- a datum that does not signal -/
def hush (d : Dat) : Dat := ⟨d.c, d.s, false, d.x, d.k⟩
def quV (n : Int) (B : Nat) : Nat := if goodN n B then pkV n (hush (unD n B)) else 0
def quE (n : Int) (B : Nat) : Int := if goodN n B then pkE n (hush (unD n B)) else 1
end
theorem und_is {m : Int} {B : Nat} (h : goodN m B) : isD (fN m) (leastN m) (mostN m) (unD m B) := by
  obtain ⟨S, E, F, hS, hE, hFr, hBe⟩ := fields_in h.2
  have hu : unD m B = mean (fN m) (eN m) (leastN m) S E F := by
    unfold unD; rw [if_pos h, hBe, unp_mean _ hS hE hFr]
  rw [hu]
  exact (mean_isD (bin_fm h.1) hS hE hFr).1
/-- a pattern that comes out is one of the format -/
theorem pk_good {n : Int} {D : Dat} (hb : binN n) (h : isD (fN n) (leastN n) (mostN n) D) : goodN n (pkV n D) ∧ unD n (pkV n D) = D :=
  back_pk (by unfold pkE; rw [if_pos hb, if_pos h])
theorem hush_is {f : Nat} {l m : Int} {D : Dat} (h : isD f l m D) : isD f l m (hush D) := by
  rcases h with ⟨h1, h2, h3, h4, h5, h6⟩ | ⟨h1, h2, h3, h4⟩ | ⟨h1, h2, h3, h4⟩
  · exact Or.inl ⟨h1, rfl, h3, h4, h5, h6⟩
  · exact Or.inr (Or.inl ⟨h1, rfl, h3, h4⟩)
  · exact Or.inr (Or.inr ⟨h1, h2, h3, Or.inr rfl⟩)
theorem qu_self {m : Int} {B : Nat} (h : goodN m B) : quV m B = pkV m (hush (unD m B)) ∧ quE m B = 0 ∧ ((unD m B).g = false → quV m B = B) := by
  have e1 : quV m B = pkV m (hush (unD m B)) := if_pos h
  refine ⟨e1, ?_, fun hg => ?_⟩
  · have : quE m B = pkE m (hush (unD m B)) := if_pos h
    rw [this]
    unfold pkE
    rw [if_pos h.1, if_pos (hush_is (und_is h))]
  · rw [e1, show hush (unD m B) = unD m B by unfold hush; rw [← hg]]
    exact (back_un h).2
/-! the sign -/
/-! the order -/
/-! what Convert answers -/
def cnG (m t d : Int) (B : Nat) : Prop := goodN m B ∧ binN t ∧ knB d
instance (m t d : Int) (B : Nat) : Decidable (cnG m t d B) := by unfold cnG; infer_instance
section
attribute [local irreducible] W4 NT NV

set_option maxHeartbeats 20000000 in
theorem rlargest_ok (n : Int) (nm : ByteArray) (wd : Int) (f e P K R : Nat) (l m Er : Int) (s : Bool) (w : World) (hP : 1 ≤ P)
    (c35 : ∀ w, Calls Tryz.prog 38 #[.int .i64 n] w fun x w' => x = .returned (.bool true) ∧ w = w')
    (c25 : ∀ w, Calls Tryz.prog 20 #[.int .i64 n] w fun x w' => x = .returned (.tuple #[IV n nm wd f e l m, .int .i64 0]) ∧ Below w.heap.size w w')
    (c30 : ∀ w, Calls Tryz.prog 26 #[.int .u64 2, .int .i64 ((f : Int) + 1)] w fun x w' => ∃ v, x = .returned v ∧ NV K P v w' ∧ Below w.heap.size w w')
    (c41 : ∀ W v v', NV K P v W → NV 1 1 v' W → Calls Tryz.prog 50 #[v, v'] W fun e w' => ∃ r, e = .returned r ∧ NV (K + 1) (P - 1) r w' ∧ Below W.heap.size W w')
    (c13 : ∀ w, Calls Tryz.prog 46 #[.int .i64 n, DV 1 s false m (P - 1)] w fun r w' => r = .returned (.tuple #[A4 R, .int .i64 Er]) ∧ Below w.heap.size w w')
    : Calls Tryz.prog 47 #[.int .i64 n, .bool s] w fun x w' => x = .returned (.tuple #[A4 R, .int .i64 Er]) ∧ Below w.heap.size w w' := by
  have hsm := cell_set_map
  have hds : ∀ W : World, W.drew.heap.size = W.heap.size := fun W => by simp
  go_enter Tryz.func47, Tryz.ntmps47
  go_wp2_with (first
    | (go_at_call 38; refine (c35 _).mono ?_; rintro r w0 ⟨rfl, rfl⟩)
    | (go_at_call 20; refine (c25 _).mono ?_; rintro x w1 ⟨rfl, hb1⟩; obtain ⟨hc1, hf1⟩ := bcell hb1; have hz1_0 : w.heap.size < w1.heap.size := lt_below hb1 ltg; have hl1_0 := Nat.le_of_lt hz1_0; have hA1 := bnext (w0 := w) bgo hb1; have hs1 := hA1.size; clear hb1))
  have hm0 : w.heap.size < w1.heap.size + 1 + 1 := by omega
  have hm2 : w.heap.size < w1.heap.size + 2 := by omega
  go_region_with (first
    | (go_at_call 26; refine (c30 _).mono ?_; rintro r w3 ⟨v3, rfl, h3, hb3⟩; (try have hone : NV 1 1 (.slice (some ⟨w1.heap.size + 1, 0, none⟩) 1 1) w3 := (nv_one_drew (by simp) rfl (by decide)).next hb3); obtain ⟨hc3, hf3⟩ := bcell hb3; have hz3_0 : w.heap.size < w3.heap.size := lt_below hb3 ltg; have hl3_0 := Nat.le_of_lt hz3_0; have hz3_1 : w1.heap.size < w3.heap.size := lt_below hb3 ltg; have hl3_1 := Nat.le_of_lt hz3_1; have hA3 := bnext (w0 := w) bgo hb3; have hs3 := hA3.size; clear hb3)
    | (go_at_call 50; refine (c41 _ _ _ (by first | exact h3 | exact h3.next bgo) (by first | exact hone | exact nv_one (by simp) rfl (by decide))).mono ?_; rintro r w4 ⟨v4, rfl, h4, hb4⟩; obtain ⟨hc4, hf4⟩ := bcell hb4; have hz4_0 : w.heap.size < w4.heap.size := lt_below hb4 ltg; have hl4_0 := Nat.le_of_lt hz4_0; have hz4_1 : w1.heap.size < w4.heap.size := lt_below hb4 ltg; have hl4_1 := Nat.le_of_lt hz4_1; have hA4 := bnext (w0 := w) bgo hb4; have hs4 := hA4.size; clear hb4)
    | (go_at_call 28; refine (bits_nv h4).mono ?_; rintro r w5 ⟨rfl, hb5⟩; obtain ⟨hc5, hf5⟩ := bcell hb5; have hz5_0 : w.heap.size < w5.heap.size := lt_below hb5 ltg; have hl5_0 := Nat.le_of_lt hz5_0; have hz5_1 : w1.heap.size < w5.heap.size := lt_below hb5 ltg; have hl5_1 := Nat.le_of_lt hz5_1; have hA5 := bnext (w0 := w) bgo hb5; have hs5 := hA5.size; clear hb5)
    | (go_at_call 46; refine (c13 _).mono ?_; rintro r w6 ⟨rfl, hb6⟩; obtain ⟨hc6, hf6⟩ := bcell hb6; have hz6_0 : w.heap.size < w6.heap.size := lt_below hb6 ltg; have hl6_0 := Nat.le_of_lt hz6_0; have hz6_1 : w1.heap.size < w6.heap.size := lt_below hb6 ltg; have hl6_1 := Nat.le_of_lt hz6_1; have hA6 := bnext (w0 := w) bgo hb6; have hs6 := hA6.size; clear hb6))
  all_goals (
    go_wp2_with fail
    exact bodyPost_ret (v := .tuple #[A4 R, .int .i64 Er]) (by simp only [results, Tryz.results47]; go_simp) rfl ⟨rfl, bgo⟩)
end
end Go.Proofs.YtgknbdehlmlipaaGreatDoor
