/-
  What the texts below lack: Bp, Bt, Mt, Rb, Ge, Rl, Ri, Lr, Rp, Rp1, Rp3, Rq.
-/
import Derived.Test.YtckkibmehjlgaaaGreatDoorJ16
import Derived.Test.YtckkibmehjlgaaaGreatDoorJ17
import Derived.Deep.Cut
import Derived.Deep.CutRange
import Derived.Deep.RegionWith
import Derived.Test.YtckkibmehjlgaaaGreatDoorJ19
import Derived.Laws.IdiomStrings
import Derived.Test.YtckkibmehjlgaaaGreatDoorJ1
import Derived.Test.YtckkibmehjlgaaaGreatDoorJ21
import Derived.Test.YtckkibmehjlgaaaGreatDoorJ26
import Derived.Test.YtckkibmehjlgaaaGreatDoorJ27
import Derived.Test.YtckkibmehjlgaaaGreatDoorTE
set_option linter.unusedVariables false
set_option linter.unusedSectionVars false
set_option linter.unusedSimpArgs false
set_option maxRecDepth 20000
namespace Go.Proofs.YtckkibmehjlgaaaGreatDoor
open Go.RowKit

theorem Z4_eq : A4 0 = Z4 := by unfold A4 Z4; simp only [W4_zero]

section
variable (f e : Nat) (l m : Int) (w : World) (c x : Int) (s : Bool) (k : Nat) (L : Int) (hf : f ≤ 240)
  (c46 : ∀ w, Calls Tryz.prog 92 #[A4 k] w fun x w' => x = .returned (.int .i64 L) ∧ Below w.heap.size w w')
include hf c46
end

end Go.Proofs.YtckkibmehjlgaaaGreatDoor

namespace Go.Proofs.YtckkibmehjlgaaaGreatDoor
open Go.RowKit

section
variable (n : Int) (f e : Nat) (l m : Int) (w : World) (hT : Tab w) (c x : Int) (s g : Bool) (k : Nat)
  (c31 : ∀ w, Tab w → Calls Tryz.prog 87 #[.int .i64 n] w fun x w' => x = .returned (.tuple #[LV f e l m, .int .i64 0]) ∧ Below w.heap.size w w')
include hT c31
end
/-- what Pack answers: the pattern, and the error's number -/
def pkV (n : Int) (d : Dat) : Nat := if binN n ∧ isD (fN n) (leastN n) (mostN n) d then pk (fN n) (eN n) (leastN n) d else 0
def pkE (n : Int) (d : Dat) : Int := if binN n then (if isD (fN n) (leastN n) (mostN n) d then 0 else 3) else 1
end Go.Proofs.YtckkibmehjlgaaaGreatDoor

namespace Go.Proofs.YtckkibmehjlgaaaGreatDoor

theorem pk_mean {f e : Nat} {l m : Int} {d : Dat} (h : Fm f e l m) (hd : isD f l m d) : ∃ S E F, S ≤ 1 ∧ E < 2 ^ e ∧ F < 2 ^ f ∧ pk f e l d = E * 2 ^ f + F + S * 2 ^ (f + e) ∧ mean f e l S E F = d := by
  have hp := pow_e h.e2 h.e15
  have hpc : ((2 : Int) ^ e) = ((2 ^ e : Nat) : Int) := by simp
  have hm := h.m
  rw [hpc] at hp hm
  have hh := half h.f2
  have hs1 : 2 ^ (f + 1) = 2 ^ f + 2 ^ f := by rw [Nat.pow_succ]; omega
  obtain ⟨c, s, g, x, k⟩ := d
  have hsg : ∃ S, S ≤ 1 ∧ decide (S = 1) = s ∧ ∀ X, (if s then X else 0) = S * X := by
    cases s
    · exact ⟨0, by decide, rfl, fun X => by simp⟩
    · exact ⟨1, by decide, rfl, fun X => by simp⟩
  obtain ⟨S, hS, hs, hsX⟩ := hsg
  rcases hd with ⟨hc, hg, hk, hx1, hx2, hx3⟩ | ⟨hc, hg, hx, hk⟩ | ⟨hc, hx, hk, hg⟩
  · dsimp only at hc hg hk hx1 hx2 hx3
    subst hc hg
    by_cases hf : 2 ^ f ≤ k
    · refine ⟨S, (x - l).toNat + 1, k - 2 ^ f, hS, by omega, by omega, ?_, ?_⟩
      · unfold pk
        simp only [if_true, hsX]
        rw [Nat.add_mul]; omega
      · unfold mean
        rw [if_neg (by omega), if_neg (by omega), hs, Nat.sub_add_cancel hf]
        congr 1
        omega
    · obtain rfl : x = l := by omega
      refine ⟨S, 0, k, hS, by omega, by omega, ?_, ?_⟩
      · unfold pk
        simp only [if_true, hsX, Int.sub_self, Int.toNat_zero]
      · unfold mean
        rw [if_neg (by omega), if_pos rfl, hs]
  · dsimp only at hc hg hx hk
    subst hc hg hx hk
    refine ⟨S, 2 ^ e - 1, 0, hS, by omega, by omega, ?_, ?_⟩
    · unfold pk
      simp only [show ¬ ((2 : Int) = 1) by decide, if_false, if_true, hsX]
    · unfold mean spc
      rw [if_pos rfl, if_pos rfl, hs]
  · dsimp only at hc hx hk hg
    subst hc hx
    cases g with
    | true =>
      have hk0 : k ≠ 0 := hg.resolve_right (by decide)
      refine ⟨S, 2 ^ e - 1, k, hS, by omega, by omega, ?_, ?_⟩
      · unfold pk
        simp only [show ¬ ((3 : Int) = 1) by decide, show ¬ ((3 : Int) = 2) by decide, if_false, if_true, hsX]
      · unfold mean spc
        rw [if_pos rfl, if_neg hk0, if_pos hk, hs]
    | false =>
      refine ⟨S, 2 ^ e - 1, k + 2 ^ (f - 1), hS, by omega, by omega, ?_, ?_⟩
      · unfold pk
        simp only [show ¬ ((3 : Int) = 1) by decide, show ¬ ((3 : Int) = 2) by decide, if_false, Bool.false_eq_true, hsX]
      · unfold mean spc
        rw [if_pos rfl, if_neg (by omega), if_neg (by omega), hs, Nat.add_sub_cancel]
/-- what was unpacked is packed as it was -/
theorem back_un {n : Int} {B : Nat} (h : goodN n B) : pkE n (unD n B) = 0 ∧ pkV n (unD n B) = B := by
  have hF := bin_fm h.1
  obtain ⟨S, E, F, hS, hE, hFr, hB⟩ := fields_in h.2
  have hu : unD n B = mean (fN n) (eN n) (leastN n) S E F := by
    unfold unD; rw [if_pos h, hB, unp_mean _ hS hE hFr]
  obtain ⟨h1, h2, _⟩ := mean_isD hF hS hE hFr
  rw [hu]
  unfold pkE pkV
  rw [if_pos h.1, if_pos h1, if_pos ⟨h.1, h1⟩, h2]
  exact ⟨rfl, hB.symm⟩
theorem good_256 {n : Int} {B : Nat} (h : goodN n B) : B < 2 ^ 256 := by
  have := (bin_fm h.1).fe
  exact Nat.lt_of_lt_of_le h.2 (Nat.pow_le_pow_right (by decide) (by omega))
/-- the other way round -/
theorem back_pk {n : Int} {d : Dat} (h : pkE n d = 0) : goodN n (pkV n d) ∧ unD n (pkV n d) = d := by
  have hb : binN n := by
    unfold pkE at h
    by_cases hb : binN n
    · exact hb
    · rw [if_neg hb] at h; cases h
  have hi : isD (fN n) (leastN n) (mostN n) d := by
    unfold pkE at h
    rw [if_pos hb] at h
    by_cases hi : isD (fN n) (leastN n) (mostN n) d
    · exact hi
    · rw [if_neg hi] at h; cases h
  have hF := bin_fm hb
  obtain ⟨S, E, F, hS, hE, hFr, hB, hm⟩ := pk_mean hF hi
  have hv : pkV n d = E * 2 ^ fN n + F + S * 2 ^ (fN n + eN n) := by
    unfold pkV; rw [if_pos ⟨hb, hi⟩, hB]
  have hg : goodN n (pkV n d) := ⟨hb, by rw [hv]; exact (fields_of hS hE hFr).2.2.2⟩
  refine ⟨hg, ?_⟩
  unfold unD
  rw [if_pos hg, hv, unp_mean _ hS hE hFr, hm]
theorem pkV_256 (n : Int) (d : Dat) : pkV n d < 2 ^ 256 := by
  by_cases h : pkE n d = 0
  · exact good_256 (back_pk h).1
  · have : pkV n d = 0 := by
      unfold pkV pkE at *
      by_cases hb : binN n
      · rw [if_pos hb] at h
        by_cases hi : isD (fN n) (leastN n) (mostN n) d
        · rw [if_pos hi] at h; exact absurd rfl h
        · exact if_neg fun hh => hi hh.2
      · exact if_neg fun hh => hb hh.1
    rw [this]; decide
end Go.Proofs.YtckkibmehjlgaaaGreatDoor

namespace Go.Proofs.YtckkibmehjlgaaaGreatDoor
open Go.RowKit

theorem zeros4 {w : World} {g : Nat} {v : Value} (h0 : w.cell? ⟨g, 0, none⟩ = some v) (h1 : w.cell? ⟨g, 1, none⟩ = some v) (h2 : w.cell? ⟨g, 2, none⟩ = some v) (h3 : w.cell? ⟨g, 3, none⟩ = some v) : ∀ i, i < 4 → w.cell? ⟨g, i, none⟩ = some v := fun i hi => by
  have : i = 0 ∨ i = 1 ∨ i = 2 ∨ i = 3 := by omega
  rcases this with rfl | rfl | rfl | rfl <;> assumption
attribute [local irreducible] W4 Nz Nt
section
variable (n d x : Int) (s : Bool) (vn vd : Value) (w : World) (hT : Tab w)
variable (nm : ByteArray) (wd : Int) (f e : Nat) (l m : Int) (N C : Nat) (R : Nat) (E fl lead x1 q0 : Int) (ex : Bool)
  (c25 : ∀ W, Below w.heap.size w W → Calls Tryz.prog 145 #[.int .i64 n, .int .i64 d, vn, vd] W fun r w' => r = .returned (.tuple #[DI n nm wd f e l m, .int .i64 0]) ∧ Below W.heap.size W w')
  (c26 : ∀ W, Below w.heap.size w W → Calls Tryz.prog 116 #[vn] W fun r w' => r = .returned (.int .i64 (bl N : Int)) ∧ W = w')
include hT c25 c26
variable (hf : f ≤ 300) (hl : -100000 ≤ l ∧ l ≤ 100000) (hm : -100000 ≤ m ∧ m ≤ 100000) (hld : -100000 ≤ lead ∧ lead ≤ 100000) (hx1 : -300000 ≤ x1 ∧ x1 ≤ 300000) (hq0 : q0 = max l (lead + x1 - ((f : Int) + 1) + 1))
  (hN : (((bl N : Nat) : Int) == 0) = false)
  (c28 : ∀ W, Below w.heap.size w W → Calls Tryz.prog 147 #[vn, vd] W fun r w' => r = .returned (.int .i64 lead) ∧ Below W.heap.size W w')
  (c29 : ∀ W, Calls Tryz.prog 148 #[DI n nm wd f e l m, .int .i64 lead, .int .i64 x] W fun r w' => r = .returned (.int .i64 x1) ∧ Below W.heap.size W w')
  (c30 : ∀ W k, k = x1 - q0 → Below w.heap.size w W → Calls Tryz.prog 149 #[.int .i64 d, .bool s, vn, vd, .int .i64 k] W fun r w' => ∃ v, r = .returned (.tuple #[v, .bool ex]) ∧ Nz 2003 C v w' ∧ Below W.heap.size W w')
  (c26c : ∀ W v, Nz 2003 C v W → Calls Tryz.prog 116 #[v] W fun r w' => r = .returned (.int .i64 (bl C : Int)) ∧ W = w')
  (c31 : ∀ W v, Nz 2003 C v W → Calls Tryz.prog 150 #[v, .int .i64 1] W fun r w' => ∃ v' b, r = .returned (.tuple #[v', .bool b]) ∧ Nz 2003 (C / 2) v' w' ∧ Below W.heap.size W w')
include hf hl hm hld hx1 hq0 hN c28 c29 c30 c26c c31
end
end Go.Proofs.YtckkibmehjlgaaaGreatDoor

namespace Go.Proofs.YtckkibmehjlgaaaGreatDoor
open Go.RowKit

theorem By.of {l : List UInt8} {w : World} {cap : Nat} : By w.heap.size l.length (by_ l) (w.drew.alloc (.cells (bytesRow (B l) cap) 5 ((bytesRow (B l) cap).size, (bytesRow (B l) cap).size + 1))) := by
  have hsz : l.length ≤ (bytesRow (B l) cap).size := by unfold bytesRow; simp [B]
  refine ⟨by simp, fun j hj => ?_, fun j hj => ?_⟩
  · have : (bytesRow (B l) cap)[j]? = some (.int .u8 (by_ l j)) := by
      unfold bytesRow by_
      rw [dif_pos hj, Array.getElem?_append_left (by simpa [B] using hj)]
      simp [B, hj]
    have hh : (w.drew.alloc (.cells (bytesRow (B l) cap) 5 ((bytesRow (B l) cap).size, (bytesRow (B l) cap).size + 1))).heap[w.heap.size]? = some (.cells (bytesRow (B l) cap) 5 ((bytesRow (B l) cap).size, (bytesRow (B l) cap).size + 1)) := by
      show (Array.push w.heap _)[w.heap.size]? = _
      simp
    unfold World.cell?
    simp only [hh]
    simp [this]
  · have hh : (w.drew.alloc (.cells (bytesRow (B l) cap) 5 ((bytesRow (B l) cap).size, (bytesRow (B l) cap).size + 1))).heap[w.heap.size]? = some (.cells (bytesRow (B l) cap) 5 ((bytesRow (B l) cap).size, (bytesRow (B l) cap).size + 1)) := by
      show (Array.push w.heap _)[w.heap.size]? = _
      simp
    unfold World.frozen?
    simp only [hh]
    simp
    omega
end Go.Proofs.YtckkibmehjlgaaaGreatDoor

namespace Go.Proofs.YtckkibmehjlgaaaGreatDoor
open Go.RowKit

set_option maxHeartbeats 1000000 in
theorem lay_any (B A at_ K : Nat) (v : Value) (w : World) (hB : B < 2 ^ 256) (hK : K < 900) (ha : at_ ≤ 600) (h : NV K A v w) :
    Calls Tryz.prog 55 #[A4 B, v, .int .i64 at_] w fun e w' => e = .returned (A4 (B + A * 2 ^ at_)) ∧ Below w.heap.size w w' := by
  have c52 : ∀ W, Below w.heap.size w W → Calls Tryz.prog 33 #[v, .int .i64 at_] W fun e w' => ∃ v', e = .returned v' ∧ NV (K + 11) (A * 2 ^ at_) v' w' ∧ Below W.heap.size W w' := fun W hW => rleft_nv at_ (by omega) ha (h.next hW)
  clear h
  go_enter Tryz.func55, Tryz.ntmps55
  go_wp2
  go_region_with (first
    | (go_at_call 33; refine (c52 _ bgo).mono ?_; rintro e w1 ⟨v1, rfl, hl, hb1⟩; have hbx := box_nv (w0 := w) (B := B) (t := 24) hB (bnext bgo hb1); obtain ⟨hc1, hf1⟩ := bcell hb1; have hz1_0 : w.heap.size < w1.heap.size := lt_below hb1 ltg; have hl1_0 := Nat.le_of_lt hz1_0; have hz1_1 : w.heap.size + 1 < w1.heap.size := lt_below hb1 ltg; have hl1_1 := Nat.le_of_lt hz1_1; have hA1 := bnext (w0 := w) bgo hb1; have hs1 := hA1.size; clear hb1)
    | (go_at_call 18; refine (radd_nv (by decide) (by omega) hbx hl).mono ?_; rintro e w2 ⟨v2, rfl, hs, hb2⟩; obtain ⟨hc2, hf2⟩ := bcell hb2; have hz2_0 : w.heap.size < w2.heap.size := lt_below hb2 ltg; have hl2_0 := Nat.le_of_lt hz2_0; have hz2_1 : w.heap.size + 1 < w2.heap.size := lt_below hb2 ltg; have hl2_1 := Nat.le_of_lt hz2_1; have hA2 := bnext (w0 := w) bgo hb2; have hs2 := hA2.size; clear hb2)
    | (go_at_call 47; refine (bits_nv hs).mono ?_; rintro e w3 ⟨rfl, hb3⟩; obtain ⟨hc3, hf3⟩ := bcell hb3; have hz3_0 : w.heap.size < w3.heap.size := lt_below hb3 ltg; have hl3_0 := Nat.le_of_lt hz3_0; have hz3_1 : w.heap.size + 1 < w3.heap.size := lt_below hb3 ltg; have hl3_1 := Nat.le_of_lt hz3_1; have hA3 := bnext (w0 := w) bgo hb3; have hs3 := hA3.size; clear hb3))
  have hsm := cell_set_map
  go_wp2
  exact bodyPost_ret (v := A4 (B + A * 2 ^ at_)) (by simp only [results, Tryz.results55]; go_simp) rfl ⟨rfl, bgo⟩
end Go.Proofs.YtckkibmehjlgaaaGreatDoor

namespace Go.Proofs.YtckkibmehjlgaaaGreatDoor
open Go.RowKit
attribute [local irreducible] W4

theorem dat_num {w0 w : World} {c : Int} {s g : Bool} {x : Int} {k : Nat} (hb : Below (w0.alloc (.cells #[.int .i64 c, .bool s, .bool g, .int .i64 x, .int .u64 (W4 k 0), .int .u64 (W4 k 1), .int .u64 (W4 k 2), .int .u64 (W4 k 3)] 35)).heap.size (w0.alloc (.cells #[.int .i64 c, .bool s, .bool g, .int .i64 x, .int .u64 (W4 k 0), .int .u64 (W4 k 1), .int .u64 (W4 k 2), .int .u64 (W4 k 3)] 35)) w) :
    Num w (some ⟨w0.heap.size, 4, none⟩) 4 4 (lowW (W4 k) 4) := by
  refine ⟨Nat.le_refl _, by unfold maxLen; omega, lowW_words (W4_words k) 4, fun i hi => lowW_ge hi, Or.inr ⟨_, _, rfl, lt_below hb (by simp), fun i hi => ?_⟩⟩
  rw [lowW_lt hi, (hb.cell (p := ⟨w0.heap.size, 4 + i, none⟩) (by simp)), World.cell?_alloc_new]
  have : i = 0 ∨ i = 1 ∨ i = 2 ∨ i = 3 := by omega
  rcases this with rfl | rfl | rfl | rfl <;> rfl
section
variable (n : Int) (nm : ByteArray) (wd : Int) (f e : Nat) (l m : Int) (c x : Int) (s g : Bool) (k : Nat) (L : Int) (w : World) (hf : 2 ≤ f ∧ f ≤ 240)
  (c38 : ∀ W, Num W (some ⟨w.heap.size + 1, 4, none⟩) 4 4 (lowW (W4 k) 4) → Calls Tryz.prog 56 #[.slice (some ⟨w.heap.size + 1, 4, none⟩) 4 4] W fun e w' => e = .returned (.int .i64 L) ∧ W = w')
include hf c38
set_option maxHeartbeats 1000000 in
theorem is1_g  : Calls Tryz.prog 54 #[IV n nm wd f e l m, DV 1 s true x k] w fun r w' => r = .returned (.bool false) ∧ Below w.heap.size w w' := by
  have hN := dat_num (w0 := w.alloc (.cells #[.int .i64 n, .string nm, .int .i64 2, .int .i64 wd, .int .i64 ((f : Int) + 1), .int .i64 e, .int .i64 l, .int .i64 m, .int .i64 ((f : Int) - 1), .bool false] 51)) (c := 1) (s := s) (g := true) (x := x) (k := k) (Below.refl _ _)
  rw [World.size_alloc] at hN
  have cl := c38 _ hN
  clear hN c38
  go_enter Tryz.func54, Tryz.ntmps54
  go_wp2_with (go_at_call 56; refine cl.mono ?_; rintro e w1 ⟨rfl, rfl⟩)
  go_ret
  exact ⟨by first | rfl | simp [*], bgo⟩
set_option maxHeartbeats 1000000 in
theorem is1_l (h1 : ¬ L ≤ (f : Int) + 1) : Calls Tryz.prog 54 #[IV n nm wd f e l m, DV 1 s false x k] w fun r w' => r = .returned (.bool false) ∧ Below w.heap.size w w' := by
  have hN := dat_num (w0 := w.alloc (.cells #[.int .i64 n, .string nm, .int .i64 2, .int .i64 wd, .int .i64 ((f : Int) + 1), .int .i64 e, .int .i64 l, .int .i64 m, .int .i64 ((f : Int) - 1), .bool false] 51)) (c := 1) (s := s) (g := false) (x := x) (k := k) (Below.refl _ _)
  rw [World.size_alloc] at hN
  have cl := c38 _ hN
  clear hN c38
  go_enter Tryz.func54, Tryz.ntmps54
  go_wp2_with (go_at_call 56; refine cl.mono ?_; rintro e w1 ⟨rfl, rfl⟩)
  go_ret
  exact ⟨by first | rfl | simp [*], bgo⟩
set_option maxHeartbeats 1000000 in
theorem is1_x (h1 : L ≤ (f : Int) + 1) (h2 : ¬ l ≤ x) : Calls Tryz.prog 54 #[IV n nm wd f e l m, DV 1 s false x k] w fun r w' => r = .returned (.bool false) ∧ Below w.heap.size w w' := by
  have hN := dat_num (w0 := w.alloc (.cells #[.int .i64 n, .string nm, .int .i64 2, .int .i64 wd, .int .i64 ((f : Int) + 1), .int .i64 e, .int .i64 l, .int .i64 m, .int .i64 ((f : Int) - 1), .bool false] 51)) (c := 1) (s := s) (g := false) (x := x) (k := k) (Below.refl _ _)
  rw [World.size_alloc] at hN
  have cl := c38 _ hN
  clear hN c38
  go_enter Tryz.func54, Tryz.ntmps54
  go_wp2_with (go_at_call 56; refine cl.mono ?_; rintro e w1 ⟨rfl, rfl⟩)
  go_ret
  exact ⟨by first | rfl | simp [*], bgo⟩
set_option maxHeartbeats 1000000 in
theorem is1_m (h1 : L ≤ (f : Int) + 1) (h2 : l ≤ x) (h3 : ¬ x ≤ m) : Calls Tryz.prog 54 #[IV n nm wd f e l m, DV 1 s false x k] w fun r w' => r = .returned (.bool false) ∧ Below w.heap.size w w' := by
  have hN := dat_num (w0 := w.alloc (.cells #[.int .i64 n, .string nm, .int .i64 2, .int .i64 wd, .int .i64 ((f : Int) + 1), .int .i64 e, .int .i64 l, .int .i64 m, .int .i64 ((f : Int) - 1), .bool false] 51)) (c := 1) (s := s) (g := false) (x := x) (k := k) (Below.refl _ _)
  rw [World.size_alloc] at hN
  have cl := c38 _ hN
  clear hN c38
  go_enter Tryz.func54, Tryz.ntmps54
  go_wp2_with (go_at_call 56; refine cl.mono ?_; rintro e w1 ⟨rfl, rfl⟩)
  go_ret
  exact ⟨by first | rfl | simp [*], bgo⟩
set_option maxHeartbeats 1000000 in
theorem is1_n (h1 : L ≤ (f : Int) + 1) (h2 : l ≤ x) (h3 : x ≤ m) (h4 : (L == (f : Int) + 1) = false) (h5 : (x == l) = false) : Calls Tryz.prog 54 #[IV n nm wd f e l m, DV 1 s false x k] w fun r w' => r = .returned (.bool false) ∧ Below w.heap.size w w' := by
  have hN := dat_num (w0 := w.alloc (.cells #[.int .i64 n, .string nm, .int .i64 2, .int .i64 wd, .int .i64 ((f : Int) + 1), .int .i64 e, .int .i64 l, .int .i64 m, .int .i64 ((f : Int) - 1), .bool false] 51)) (c := 1) (s := s) (g := false) (x := x) (k := k) (Below.refl _ _)
  rw [World.size_alloc] at hN
  have cl := c38 _ hN
  clear hN c38
  go_enter Tryz.func54, Tryz.ntmps54
  go_wp2_with (go_at_call 56; refine cl.mono ?_; rintro e w1 ⟨rfl, rfl⟩)
  go_ret
  exact ⟨by first | rfl | simp [*], bgo⟩
set_option maxHeartbeats 1000000 in
theorem is1_a (h1 : L ≤ (f : Int) + 1) (h2 : l ≤ x) (h3 : x ≤ m) (h4 : (L == (f : Int) + 1) = true) : Calls Tryz.prog 54 #[IV n nm wd f e l m, DV 1 s false x k] w fun r w' => r = .returned (.bool true) ∧ Below w.heap.size w w' := by
  have hN := dat_num (w0 := w.alloc (.cells #[.int .i64 n, .string nm, .int .i64 2, .int .i64 wd, .int .i64 ((f : Int) + 1), .int .i64 e, .int .i64 l, .int .i64 m, .int .i64 ((f : Int) - 1), .bool false] 51)) (c := 1) (s := s) (g := false) (x := x) (k := k) (Below.refl _ _)
  rw [World.size_alloc] at hN
  have cl := c38 _ hN
  clear hN c38
  go_enter Tryz.func54, Tryz.ntmps54
  go_wp2_with (go_at_call 56; refine cl.mono ?_; rintro e w1 ⟨rfl, rfl⟩)
  go_ret
  exact ⟨by first | rfl | simp [*], bgo⟩
set_option maxHeartbeats 1000000 in
theorem is1_b (h1 : L ≤ (f : Int) + 1) (h2 : l ≤ x) (h3 : x ≤ m) (h4 : (L == (f : Int) + 1) = false) (h5 : (x == l) = true) : Calls Tryz.prog 54 #[IV n nm wd f e l m, DV 1 s false x k] w fun r w' => r = .returned (.bool true) ∧ Below w.heap.size w w' := by
  have hN := dat_num (w0 := w.alloc (.cells #[.int .i64 n, .string nm, .int .i64 2, .int .i64 wd, .int .i64 ((f : Int) + 1), .int .i64 e, .int .i64 l, .int .i64 m, .int .i64 ((f : Int) - 1), .bool false] 51)) (c := 1) (s := s) (g := false) (x := x) (k := k) (Below.refl _ _)
  rw [World.size_alloc] at hN
  have cl := c38 _ hN
  clear hN c38
  go_enter Tryz.func54, Tryz.ntmps54
  go_wp2_with (go_at_call 56; refine cl.mono ?_; rintro e w1 ⟨rfl, rfl⟩)
  go_ret
  exact ⟨by first | rfl | simp [*], bgo⟩
set_option maxHeartbeats 1000000 in
theorem is2_g  : Calls Tryz.prog 54 #[IV n nm wd f e l m, DV 2 s true x k] w fun r w' => r = .returned (.bool false) ∧ Below w.heap.size w w' := by
  have hN := dat_num (w0 := w.alloc (.cells #[.int .i64 n, .string nm, .int .i64 2, .int .i64 wd, .int .i64 ((f : Int) + 1), .int .i64 e, .int .i64 l, .int .i64 m, .int .i64 ((f : Int) - 1), .bool false] 51)) (c := 2) (s := s) (g := true) (x := x) (k := k) (Below.refl _ _)
  rw [World.size_alloc] at hN
  have cl := c38 _ hN
  clear hN c38
  go_enter Tryz.func54, Tryz.ntmps54
  go_wp2_with (go_at_call 56; refine cl.mono ?_; rintro e w1 ⟨rfl, rfl⟩)
  go_ret
  exact ⟨by first | rfl | simp [*], bgo⟩
set_option maxHeartbeats 1000000 in
theorem is2_l (h1 : (L == 0) = false) : Calls Tryz.prog 54 #[IV n nm wd f e l m, DV 2 s false x k] w fun r w' => r = .returned (.bool false) ∧ Below w.heap.size w w' := by
  have hN := dat_num (w0 := w.alloc (.cells #[.int .i64 n, .string nm, .int .i64 2, .int .i64 wd, .int .i64 ((f : Int) + 1), .int .i64 e, .int .i64 l, .int .i64 m, .int .i64 ((f : Int) - 1), .bool false] 51)) (c := 2) (s := s) (g := false) (x := x) (k := k) (Below.refl _ _)
  rw [World.size_alloc] at hN
  have cl := c38 _ hN
  clear hN c38
  go_enter Tryz.func54, Tryz.ntmps54
  go_wp2_with (go_at_call 56; refine cl.mono ?_; rintro e w1 ⟨rfl, rfl⟩)
  go_ret
  exact ⟨by first | rfl | simp [*], bgo⟩
set_option maxHeartbeats 1000000 in
theorem is2_x (h1 : (L == 0) = true) (h2 : (x == 0) = false) : Calls Tryz.prog 54 #[IV n nm wd f e l m, DV 2 s false x k] w fun r w' => r = .returned (.bool false) ∧ Below w.heap.size w w' := by
  have hN := dat_num (w0 := w.alloc (.cells #[.int .i64 n, .string nm, .int .i64 2, .int .i64 wd, .int .i64 ((f : Int) + 1), .int .i64 e, .int .i64 l, .int .i64 m, .int .i64 ((f : Int) - 1), .bool false] 51)) (c := 2) (s := s) (g := false) (x := x) (k := k) (Below.refl _ _)
  rw [World.size_alloc] at hN
  have cl := c38 _ hN
  clear hN c38
  go_enter Tryz.func54, Tryz.ntmps54
  go_wp2_with (go_at_call 56; refine cl.mono ?_; rintro e w1 ⟨rfl, rfl⟩)
  go_ret
  exact ⟨by first | rfl | simp [*], bgo⟩
set_option maxHeartbeats 1000000 in
theorem is2_a (h1 : (L == 0) = true) (h2 : (x == 0) = true) : Calls Tryz.prog 54 #[IV n nm wd f e l m, DV 2 s false x k] w fun r w' => r = .returned (.bool true) ∧ Below w.heap.size w w' := by
  have hN := dat_num (w0 := w.alloc (.cells #[.int .i64 n, .string nm, .int .i64 2, .int .i64 wd, .int .i64 ((f : Int) + 1), .int .i64 e, .int .i64 l, .int .i64 m, .int .i64 ((f : Int) - 1), .bool false] 51)) (c := 2) (s := s) (g := false) (x := x) (k := k) (Below.refl _ _)
  rw [World.size_alloc] at hN
  have cl := c38 _ hN
  clear hN c38
  go_enter Tryz.func54, Tryz.ntmps54
  go_wp2_with (go_at_call 56; refine cl.mono ?_; rintro e w1 ⟨rfl, rfl⟩)
  go_ret
  exact ⟨by first | rfl | simp [*], bgo⟩
set_option maxHeartbeats 1000000 in
theorem is3_x (h2 : (x == 0) = false) : Calls Tryz.prog 54 #[IV n nm wd f e l m, DV 3 s g x k] w fun r w' => r = .returned (.bool false) ∧ Below w.heap.size w w' := by
  have hN := dat_num (w0 := w.alloc (.cells #[.int .i64 n, .string nm, .int .i64 2, .int .i64 wd, .int .i64 ((f : Int) + 1), .int .i64 e, .int .i64 l, .int .i64 m, .int .i64 ((f : Int) - 1), .bool false] 51)) (c := 3) (s := s) (g := g) (x := x) (k := k) (Below.refl _ _)
  rw [World.size_alloc] at hN
  have cl := c38 _ hN
  clear hN c38
  go_enter Tryz.func54, Tryz.ntmps54
  go_wp2_with (go_at_call 56; refine cl.mono ?_; rintro e w1 ⟨rfl, rfl⟩)
  go_ret
  exact ⟨by first | rfl | simp [*], bgo⟩
set_option maxHeartbeats 1000000 in
theorem is3_l (h2 : (x == 0) = true) (h1 : ¬ L ≤ (f : Int) - 1) : Calls Tryz.prog 54 #[IV n nm wd f e l m, DV 3 s g x k] w fun r w' => r = .returned (.bool false) ∧ Below w.heap.size w w' := by
  have hN := dat_num (w0 := w.alloc (.cells #[.int .i64 n, .string nm, .int .i64 2, .int .i64 wd, .int .i64 ((f : Int) + 1), .int .i64 e, .int .i64 l, .int .i64 m, .int .i64 ((f : Int) - 1), .bool false] 51)) (c := 3) (s := s) (g := g) (x := x) (k := k) (Below.refl _ _)
  rw [World.size_alloc] at hN
  have cl := c38 _ hN
  clear hN c38
  go_enter Tryz.func54, Tryz.ntmps54
  go_wp2_with (go_at_call 56; refine cl.mono ?_; rintro e w1 ⟨rfl, rfl⟩)
  go_ret
  exact ⟨by first | rfl | simp [*], bgo⟩
set_option maxHeartbeats 1000000 in
theorem is3_a (h2 : (x == 0) = true) (h1 : L ≤ (f : Int) - 1) (h3 : 0 < L) : Calls Tryz.prog 54 #[IV n nm wd f e l m, DV 3 s g x k] w fun r w' => r = .returned (.bool true) ∧ Below w.heap.size w w' := by
  have hN := dat_num (w0 := w.alloc (.cells #[.int .i64 n, .string nm, .int .i64 2, .int .i64 wd, .int .i64 ((f : Int) + 1), .int .i64 e, .int .i64 l, .int .i64 m, .int .i64 ((f : Int) - 1), .bool false] 51)) (c := 3) (s := s) (g := g) (x := x) (k := k) (Below.refl _ _)
  rw [World.size_alloc] at hN
  have cl := c38 _ hN
  clear hN c38
  go_enter Tryz.func54, Tryz.ntmps54
  go_wp2_with (go_at_call 56; refine cl.mono ?_; rintro e w1 ⟨rfl, rfl⟩)
  go_ret
  exact ⟨by first | rfl | simp [*], bgo⟩
set_option maxHeartbeats 1000000 in
theorem is3_q (h2 : (x == 0) = true) (h1 : L ≤ (f : Int) - 1) (h3 : ¬ 0 < L) : Calls Tryz.prog 54 #[IV n nm wd f e l m, DV 3 s false x k] w fun r w' => r = .returned (.bool true) ∧ Below w.heap.size w w' := by
  have hN := dat_num (w0 := w.alloc (.cells #[.int .i64 n, .string nm, .int .i64 2, .int .i64 wd, .int .i64 ((f : Int) + 1), .int .i64 e, .int .i64 l, .int .i64 m, .int .i64 ((f : Int) - 1), .bool false] 51)) (c := 3) (s := s) (g := false) (x := x) (k := k) (Below.refl _ _)
  rw [World.size_alloc] at hN
  have cl := c38 _ hN
  clear hN c38
  go_enter Tryz.func54, Tryz.ntmps54
  go_wp2_with (go_at_call 56; refine cl.mono ?_; rintro e w1 ⟨rfl, rfl⟩)
  go_ret
  exact ⟨by first | rfl | simp [*], bgo⟩
set_option maxHeartbeats 1000000 in
theorem is3_s (h2 : (x == 0) = true) (h1 : L ≤ (f : Int) - 1) (h3 : ¬ 0 < L) : Calls Tryz.prog 54 #[IV n nm wd f e l m, DV 3 s true x k] w fun r w' => r = .returned (.bool false) ∧ Below w.heap.size w w' := by
  have hN := dat_num (w0 := w.alloc (.cells #[.int .i64 n, .string nm, .int .i64 2, .int .i64 wd, .int .i64 ((f : Int) + 1), .int .i64 e, .int .i64 l, .int .i64 m, .int .i64 ((f : Int) - 1), .bool false] 51)) (c := 3) (s := s) (g := true) (x := x) (k := k) (Below.refl _ _)
  rw [World.size_alloc] at hN
  have cl := c38 _ hN
  clear hN c38
  go_enter Tryz.func54, Tryz.ntmps54
  go_wp2_with (go_at_call 56; refine cl.mono ?_; rintro e w1 ⟨rfl, rfl⟩)
  go_ret
  exact ⟨by first | rfl | simp [*], bgo⟩
set_option maxHeartbeats 1000000 in
theorem is_0 (h1 : (c == 1) = false) (h2 : (c == 2) = false) (h3 : (c == 3) = false) : Calls Tryz.prog 54 #[IV n nm wd f e l m, DV c s g x k] w fun r w' => r = .returned (.bool false) ∧ Below w.heap.size w w' := by
  have hN := dat_num (w0 := w.alloc (.cells #[.int .i64 n, .string nm, .int .i64 2, .int .i64 wd, .int .i64 ((f : Int) + 1), .int .i64 e, .int .i64 l, .int .i64 m, .int .i64 ((f : Int) - 1), .bool false] 51)) (c := c) (s := s) (g := g) (x := x) (k := k) (Below.refl _ _)
  rw [World.size_alloc] at hN
  have cl := c38 _ hN
  clear hN c38
  go_enter Tryz.func54, Tryz.ntmps54
  go_wp2_with (go_at_call 56; refine cl.mono ?_; rintro e w1 ⟨rfl, rfl⟩)
  go_ret
  exact ⟨by first | rfl | simp [*], bgo⟩
end
theorem ris_any (n : Int) (nm : ByteArray) (wd : Int) (f e : Nat) (l m : Int) (d : Dat) (w : World) (h : Fm f e l m) (hk : d.k < 2 ^ 256) :
    Calls Tryz.prog 54 #[IV n nm wd f e l m, d.v] w fun r w' => r = .returned (.bool (decide (isD f l m d))) ∧ Below w.heap.size w w' := by
  obtain ⟨c, s, g, x, k⟩ := d
  unfold Dat.v
  dsimp only at hk ⊢
  have hf : 2 ≤ f ∧ f ≤ 240 := ⟨h.f2, h.f240⟩
  have c38 : ∀ W, Num W (some ⟨w.heap.size + 1, 4, none⟩) 4 4 (lowW (W4 k) 4) → Calls Tryz.prog 56 #[.slice (some ⟨w.heap.size + 1, 4, none⟩) 4 4] W fun e w' => e = .returned (.int .i64 (lenL (W4 k) 4)) ∧ W = w' := fun W hN => by
    have := rlen_num (some ⟨w.heap.size + 1, 4, none⟩) 4 4 (lowW (W4 k) 4) W (by decide) hN
    rw [lenL_low] at this
    exact this
  have hL1 := len4_le (k := f + 1) hk
  have hL0 := len4_le (k := f) hk
  have hLp := len4_le (k := f - 1) hk
  have hLz := len4_zero hk
  have hz0 : 0 ≤ lenL (W4 k) 4 := by
    by_cases hz : k = 0
    · rw [hLz.2 hz]; exact Int.le_refl _
    · have := len4_le (k := 0) hk
      have h1 : ¬ lenL (W4 k) 4 ≤ ((0 : Nat) : Int) := fun hh => hz (by have := this.1 hh; omega)
      omega
  rw [show ((f + 1 : Nat) : Int) = (f : Int) + 1 by omega] at hL1
  rw [show ((f - 1 : Nat) : Int) = (f : Int) - 1 by omega] at hLp
  generalize lenL (W4 k) 4 = L at *
  have D : ∀ (p : Prop) [Decidable p] (b : Bool), (b = true ↔ p) → decide p = b := fun p _ b hb => by
    cases b
    · exact decide_eq_false fun hp => by simpa using hb.2 hp
    · exact decide_eq_true (hb.1 rfl)
  by_cases h1 : c = 1
  · subst h1
    cases g with
    | true => rw [D _ false (by unfold isD; simp)]; exact is1_g n nm wd f e l m x s k L w hf c38
    | false =>
      by_cases a1 : L ≤ (f : Int) + 1
      · by_cases a2 : l ≤ x
        · by_cases a3 : x ≤ m
          · by_cases a4 : L = (f : Int) + 1
            · rw [D _ true (by unfold isD; simp; refine ⟨hL1.1 a1, a2, a3, Or.inl ?_⟩; rcases Nat.lt_or_ge k (2 ^ f) with hh | hh; (have := hL0.2 hh; omega); exact hh)]
              exact is1_a n nm wd f e l m x s k L w hf c38 a1 a2 a3 (by simpa using a4)
            · by_cases a5 : x = l
              · rw [D _ true (by unfold isD; simp; exact ⟨hL1.1 a1, a2, a3, Or.inr a5⟩)]
                exact is1_b n nm wd f e l m x s k L w hf c38 a1 a2 a3 (by simpa using a4) (by simpa using a5)
              · rw [D _ false (by unfold isD; simp; intro _ _ _; have hkf := hL0.1 (by omega); exact ⟨by omega, a5⟩)]
                exact is1_n n nm wd f e l m x s k L w hf c38 a1 a2 a3 (by simpa using a4) (by simpa using a5)
          · rw [D _ false (by unfold isD; simp; intro _ _ h3; exact absurd h3 a3)]
            exact is1_m n nm wd f e l m x s k L w hf c38 a1 a2 a3
        · rw [D _ false (by unfold isD; simp; intro _ h2; exact absurd h2 a2)]
          exact is1_x n nm wd f e l m x s k L w hf c38 a1 a2
      · rw [D _ false (by unfold isD; simp; intro h3; exact absurd (hL1.2 h3) a1)]
        exact is1_l n nm wd f e l m x s k L w hf c38 a1
  · by_cases h2 : c = 2
    · subst h2
      cases g with
      | true => rw [D _ false (by unfold isD; simp)]; exact is2_g n nm wd f e l m x s k L w hf c38
      | false =>
        by_cases a1 : L = 0
        · by_cases a2 : x = 0
          · rw [D _ true (by unfold isD; simp; exact ⟨a2, hLz.1 a1⟩)]
            exact is2_a n nm wd f e l m x s k L w hf c38 (by simpa using a1) (by simpa using a2)
          · rw [D _ false (by unfold isD; simp; intro h3; exact absurd h3 a2)]
            exact is2_x n nm wd f e l m x s k L w hf c38 (by simpa using a1) (by simpa using a2)
        · rw [D _ false (by unfold isD; simp; intro _ h3; exact a1 (hLz.2 h3))]
          exact is2_l n nm wd f e l m x s k L w hf c38 (by simpa using a1)
    · by_cases h3 : c = 3
      · subst h3
        by_cases a2 : x = 0
        · by_cases a1 : L ≤ (f : Int) - 1
          · by_cases a3 : 0 < L
            · rw [D _ true (by unfold isD; simp; exact ⟨a2, hLp.1 a1, Or.inl fun hh => by rw [hLz.2 hh] at a3; omega⟩)]
              exact is3_a n nm wd f e l m x s g k L w hf c38 (by simpa using a2) a1 a3
            · have k0 : k = 0 := hLz.1 (by omega)
              cases g with
              | false =>
                rw [D _ true (by unfold isD; simp; exact ⟨a2, hLp.1 a1⟩)]
                exact is3_q n nm wd f e l m x s k L w hf c38 (by simpa using a2) a1 a3
              | true =>
                rw [D _ false (by unfold isD; simp; intro _ _; exact k0)]
                exact is3_s n nm wd f e l m x s k L w hf c38 (by simpa using a2) a1 a3
          · rw [D _ false (by unfold isD; simp; intro _ h4; exact absurd (hLp.2 h4) a1)]
            exact is3_l n nm wd f e l m x s g k L w hf c38 (by simpa using a2) a1
        · rw [D _ false (by unfold isD; simp; intro h4; exact absurd h4 a2)]
          exact is3_x n nm wd f e l m x s g k L w hf c38 (by simpa using a2)
      · rw [D _ false (by unfold isD; simp [h1, h2, h3])]
        exact is_0 n nm wd f e l m c x s g k L w hf c38 (by simpa using h1) (by simpa using h2) (by simpa using h3)
end Go.Proofs.YtckkibmehjlgaaaGreatDoor

namespace Go.Proofs.YtckkibmehjlgaaaGreatDoor
open Go.RowKit

theorem Four.of {w : World} {g o k : Nat} (h0 : w.cell? ⟨g, o + 0, none⟩ = some (.int .u64 (W4 k 0))) (h1 : w.cell? ⟨g, o + 1, none⟩ = some (.int .u64 (W4 k 1))) (h2 : w.cell? ⟨g, o + 2, none⟩ = some (.int .u64 (W4 k 2))) (h3 : w.cell? ⟨g, o + 3, none⟩ = some (.int .u64 (W4 k 3))) : Four w g o k :=
  ⟨fun i hi => by
    have : i = 0 ∨ i = 1 ∨ i = 2 ∨ i = 3 := by omega
    rcases this with rfl | rfl | rfl | rfl <;> assumption⟩
attribute [local irreducible] W4 mo
section
variable (n : Int) (A B : Nat) (w : World) (hT : Tab w) (Xc Xx Yc Yx : Int) (Xs Xg Yg : Bool) (Xk Yk : Nat)
include hT
end
end Go.Proofs.YtckkibmehjlgaaaGreatDoor

namespace Go.Proofs.YtckkibmehjlgaaaGreatDoor
open Go.RowKit

theorem nv_one {W : World} {g V : Nat} {vi : Int} (hg : g = W.heap.size) (hv : vi = (V : Int)) (hb : V < 18446744073709551616) : NV 1 V (.slice (some ⟨g, 0, none⟩) 1 1) (W.alloc (.cells #[.int .u64 vi] 22)) := by
  subst hg hv
  exact ⟨_, 1, 1, oneW V, rfl, Nat.le_refl _, num_one W V (by omega), val_one1 V⟩
theorem four_num {w : World} {g o k : Nat} (h : Four w g o k) (hg : g < w.heap.size) : Num w (some ⟨g, o, none⟩) 4 4 (lowW (W4 k) 4) := by
  refine ⟨Nat.le_refl _, by unfold maxLen; omega, lowW_words (W4_words k) 4, fun i hi => lowW_ge hi, Or.inr ⟨_, _, rfl, hg, fun i hi => ?_⟩⟩
  rw [lowW_lt hi]
  exact h.cell i hi
theorem rleft_off {g o k cap A : Nat} {z : Nat → Int} {w : World} (s : Nat) (hk : k < 1000) (hs : s ≤ 600) (hN : Num w (some ⟨g, o, none⟩) k cap z) (hv : val z k = (A : Int)) :
    Calls Tryz.prog 33 #[.slice (some ⟨g, o, none⟩) k cap, .int .i64 s] w fun e w' => ∃ v', e = .returned v' ∧ NV (k + 11) (A * 2 ^ s) v' w' ∧ Below w.heap.size w w' := by
  obtain ⟨q, hq⟩ : ∃ q : Nat, (s : Int) / 64 = q := ⟨((s : Int) / 64).toNat, by omega⟩
  obtain ⟨r, hr⟩ : ∃ r : Nat, (s : Int) % 64 = r := ⟨((s : Int) % 64).toNat, by omega⟩
  have hsn : s = 64 * q + r := by omega
  have hr6 : r < 64 := by omega
  have key : ∀ (w' : World) (g' k' cap' : Nat), k' ≤ k + q + 1 → Num w' (some ⟨g', 0, none⟩) k' cap' (finL z q r) → NV (k + 11) (A * 2 ^ s) (.slice (some ⟨g', 0, none⟩) k' cap') w' := fun w' g' k' cap' hk' hN' => by
    refine ⟨g', k', cap', _, rfl, by omega, hN', ?_⟩
    rw [← val_more hN'.2.2.2.1 (k + q + 1) hk', finL_val hN.2.2.1 hN.2.2.2.1 q hr6, hv, hsn]
    simp
  by_cases h0 : r = 0
  · subst h0
    refine (left_z g o k cap q s z w (by omega) (by omega) hq (by omega) (by omega) hN).mono ?_
    rintro e w' ⟨g', k', cap', rfl, hk', hN', hb⟩
    exact ⟨_, rfl, key w' g' k' cap' hk' hN', hb⟩
  · refine (left_p g o k cap q r s z w (by omega) (by omega) hr6 (by omega) hq hr (by omega) hN).mono ?_
    rintro e w' ⟨g', k', cap', rfl, hk', hN', hb⟩
    exact ⟨_, rfl, key w' g' k' cap' hk' hN', hb⟩
set_option maxHeartbeats 1000000 in
theorem lay_off (B A at_ k g o cap : Nat) (z : Nat → Int) (w : World) (hB : B < 2 ^ 256) (hK : k < 900) (ha : at_ ≤ 600) (hN : Num w (some ⟨g, o, none⟩) k cap z) (hv : val z k = (A : Int)) :
    Calls Tryz.prog 55 #[A4 B, .slice (some ⟨g, o, none⟩) k cap, .int .i64 at_] w fun e w' => e = .returned (A4 (B + A * 2 ^ at_)) ∧ Below w.heap.size w w' := by
  have c52 : ∀ W, Below w.heap.size w W → Calls Tryz.prog 33 #[.slice (some ⟨g, o, none⟩) k cap, .int .i64 at_] W fun e w' => ∃ v', e = .returned v' ∧ NV (k + 11) (A * 2 ^ at_) v' w' ∧ Below W.heap.size W w' := fun W hW => rleft_off at_ (by omega) ha (hN.next hW) hv
  clear hN
  go_enter Tryz.func55, Tryz.ntmps55
  go_wp2
  go_region_with (first
    | (go_at_call 33; refine (c52 _ bgo).mono ?_; rintro e w1 ⟨v1, rfl, hl, hb1⟩; have hbx := box_nv (w0 := w) (B := B) (t := 24) hB (bnext bgo hb1); obtain ⟨hc1, hf1⟩ := bcell hb1; have hz1_0 : w.heap.size < w1.heap.size := lt_below hb1 ltg; have hl1_0 := Nat.le_of_lt hz1_0; have hz1_1 : w.heap.size + 1 < w1.heap.size := lt_below hb1 ltg; have hl1_1 := Nat.le_of_lt hz1_1; have hA1 := bnext (w0 := w) bgo hb1; have hs1 := hA1.size; clear hb1)
    | (go_at_call 18; refine (radd_nv (by decide) (by omega) hbx hl).mono ?_; rintro e w2 ⟨v2, rfl, hs, hb2⟩; obtain ⟨hc2, hf2⟩ := bcell hb2; have hz2_0 : w.heap.size < w2.heap.size := lt_below hb2 ltg; have hl2_0 := Nat.le_of_lt hz2_0; have hz2_1 : w.heap.size + 1 < w2.heap.size := lt_below hb2 ltg; have hl2_1 := Nat.le_of_lt hz2_1; have hA2 := bnext (w0 := w) bgo hb2; have hs2 := hA2.size; clear hb2)
    | (go_at_call 47; refine (bits_nv hs).mono ?_; rintro e w3 ⟨rfl, hb3⟩; obtain ⟨hc3, hf3⟩ := bcell hb3; have hz3_0 : w.heap.size < w3.heap.size := lt_below hb3 ltg; have hl3_0 := Nat.le_of_lt hz3_0; have hz3_1 : w.heap.size + 1 < w3.heap.size := lt_below hb3 ltg; have hl3_1 := Nat.le_of_lt hz3_1; have hA3 := bnext (w0 := w) bgo hb3; have hs3 := hA3.size; clear hb3))
  have hsm := cell_set_map
  go_wp2
  exact bodyPost_ret (v := A4 (B + A * 2 ^ at_)) (by simp only [results, Tryz.results55]; go_simp) rfl ⟨rfl, bgo⟩
theorem set_far {g h : Nat} (hne : g ≠ h) (W : World) (i j : Nat) (v : Value) : (W.setCell ⟨g, j, none⟩ v).cell? ⟨h, i, none⟩ = W.cell? ⟨h, i, none⟩ :=
  World.cell?_setCell_other (h := fun q => hne (congrArg Addr.block q)) ..
attribute [local irreducible] W4 NT NV
section
variable (n : Int) (nm : ByteArray) (wd : Int) (f e All R Bs : Nat) (l m : Int) (x : Int) (s g : Bool) (k : Nat) (w : World) (hf : 2 ≤ f ∧ f ≤ 240) (he : e ≤ 15) (hAll : (2 : Int) ^ e - 1 = (All : Int))
  (c35 : ∀ w, Calls Tryz.prog 41 #[.int .i64 n] w fun x w' => x = .returned (.bool true) ∧ w = w')
  (c25 : ∀ w, Calls Tryz.prog 25 #[.int .i64 n] w fun x w' => x = .returned (.tuple #[IV n nm wd f e l m, .int .i64 0]) ∧ Below w.heap.size w w')
  (cS : s = true → ∀ W v, NV 1 1 v W → Calls Tryz.prog 55 #[Z4, v, .int .i64 ((f : Int) + e)] W fun r w' => r = .returned (A4 Bs) ∧ Below W.heap.size W w')
  (hB0 : s = false → ∀ i, W4 Bs i = 0)
include hf he hAll c35 c25 cS hB0
set_option maxHeartbeats 2000000 in
theorem rpack2
  (c36 : ∀ w, Calls Tryz.prog 54 #[IV n nm wd f e l m, DV 2 s g x k] w fun r w' => r = .returned (.bool true) ∧ Below w.heap.size w w')
  (cA : ∀ W v, NV 1 All v W → Calls Tryz.prog 55 #[A4 Bs, v, .int .i64 f] W fun r w' => r = .returned (A4 R) ∧ Below W.heap.size W w') :
    Calls Tryz.prog 21 #[.int .i64 n, DV 2 s g x k] w fun r w' => r = .returned (.tuple #[A4 R, .int .i64 0]) ∧ Below w.heap.size w w' := by
  have hp := pow_e' he
  have hAb : All < 18446744073709551616 := by omega
  have hsm := cell_set_map
  go_enter Tryz.func21, Tryz.ntmps21
  go_upto_if 29 with (first
    | (go_at_call 41; refine (c35 _).mono ?_; rintro r w0 ⟨rfl, rfl⟩)
    | (go_at_call 25; refine (c25 _).mono ?_; rintro x w1 ⟨rfl, hb1⟩; obtain ⟨hc1, hf1⟩ := bcell hb1; have hz1_0 : w.heap.size < w1.heap.size := lt_below hb1 ltg; have hl1_0 := Nat.le_of_lt hz1_0; have hz1_1 : w.heap.size + 1 < w1.heap.size := lt_below hb1 ltg; have hl1_1 := Nat.le_of_lt hz1_1; have hA1 := bnext (w0 := w) bgo hb1; have hs1 := hA1.size; clear hb1)
    | (go_at_call 54; refine (c36 _).mono ?_; rintro x w2 ⟨rfl, hb2⟩; obtain ⟨hc2, hf2⟩ := bcell hb2; have hz2_0 : w.heap.size < w2.heap.size := lt_below hb2 ltg; have hl2_0 := Nat.le_of_lt hz2_0; have hz2_1 : w.heap.size + 1 < w2.heap.size := lt_below hb2 ltg; have hl2_1 := Nat.le_of_lt hz2_1; have hz2_2 : w1.heap.size < w2.heap.size := lt_below hb2 ltg; have hl2_2 := Nat.le_of_lt hz2_2; have hA2 := bnext (w0 := w) bgo hb2; have hs2 := hA2.size; clear hb2))
  have hn1 := set_far (Nat.ne_of_gt hz2_2)
  have hn0 := set_far (Nat.ne_of_gt hz2_0)
  have hn2 := set_far (Nat.ne_of_gt hz2_1)
  go_cut [] from 11 (fun wc => Four wc w2.heap.size 0 Bs ∧ Four wc w.heap.size 4 k ∧ (∀ i, i < 4 → wc.cell? ⟨w.heap.size + 1, i, none⟩ = some (.int .u64 0)) ∧ (∀ i, wc.frozen? ⟨w.heap.size + 1, i, none⟩ = false) ∧ (∀ i, wc.frozen? ⟨w2.heap.size, i, none⟩ = false)
      ∧ wc.cell? ⟨w.heap.size, 0, none⟩ = some (.int .i64 2) ∧ wc.cell? ⟨w.heap.size, 2, none⟩ = some (.bool g) ∧ wc.cell? ⟨w.heap.size, 3, none⟩ = some (.int .i64 x)
      ∧ wc.cell? ⟨w1.heap.size, 4, none⟩ = some (.int .i64 ((f : Int) + 1)) ∧ wc.cell? ⟨w1.heap.size, 5, none⟩ = some (.int .i64 e) ∧ wc.cell? ⟨w1.heap.size, 6, none⟩ = some (.int .i64 l) ∧ Below w.heap.size w wc ∧ w2.heap.size < wc.heap.size)
  case first =>
    cases s with
    | false =>
      have hB := hB0 rfl
      clear hB0 cS
      go_wp2
      go_meet
      exact ⟨.of (by rw [hB 0]; go_simp) (by rw [hB 1]; go_simp) (by rw [hB 2]; go_simp) (by rw [hB 3]; go_simp), .of (by go_simp) (by go_simp) (by go_simp) (by go_simp), zeros4 (by go_simp) (by go_simp) (by go_simp) (by go_simp), fun i => by go_simp, fun i => by go_simp, by go_simp, by go_simp, by go_simp, by go_simp, by go_simp, by go_simp, bgo, by simp; try omega⟩
    | true =>
      have hm0 : w.heap.size < w2.heap.size + 1 + 1 := by omega
      have hm1 : w1.heap.size < w2.heap.size + 1 + 1 := by omega
      have hm2 : w.heap.size < w2.heap.size + 2 := by omega
      have hm3 : w1.heap.size < w2.heap.size + 2 := by omega
      replace cS := cS rfl
      clear hB0
      go_wp2_with (go_at_call 55; refine (cS _ _ (nv_one (by simp) rfl (by decide))).mono ?_; rintro r w3 ⟨rfl, hb3⟩; obtain ⟨hc3, hf3⟩ := bcell hb3; have hz3_0 : w.heap.size < w3.heap.size := lt_below hb3 ltg; have hl3_0 := Nat.le_of_lt hz3_0; have hz3_1 : w.heap.size + 1 < w3.heap.size := lt_below hb3 ltg; have hl3_1 := Nat.le_of_lt hz3_1; have hz3_2 : w1.heap.size < w3.heap.size := lt_below hb3 ltg; have hl3_2 := Nat.le_of_lt hz3_2; have hz3_3 : w2.heap.size < w3.heap.size := lt_below hb3 ltg; have hl3_3 := Nat.le_of_lt hz3_3; have hA3 := bnext (w0 := w) bgo hb3; have hs3 := hA3.size; clear hb3)
      go_meet
      exact ⟨.of (by go_simp) (by go_simp) (by go_simp) (by go_simp), .of (by go_simp) (by go_simp) (by go_simp) (by go_simp), zeros4 (by go_simp) (by go_simp) (by go_simp) (by go_simp), fun i => by go_simp, fun i => by go_simp, by go_simp, by go_simp, by go_simp, by go_simp, by go_simp, by go_simp, bgo, by simp; try omega⟩
  case rest =>
    clear cS hB0
    have hcut0 := hcut
    obtain ⟨fB, fK, fz, fr4, fr9, d0, d2, d3, i4, i5, i6, hbw, hsz⟩ := hcut
    have hl0 : w.heap.size < wc.heap.size := by omega
    have hl1 : w.heap.size + 1 < wc.heap.size := by omega
    have hl2 : w1.heap.size < wc.heap.size := by omega
    have hle0 := Nat.le_of_lt hl0
    have hle1 := Nat.le_of_lt hl1
    have hle2 := Nat.le_of_lt hl2
    have hle3 := Nat.le_of_lt hsz
    have b0 := fB.cell 0 (by decide)
    have b1 := fB.cell 1 (by decide)
    have b2 := fB.cell 2 (by decide)
    have b3 := fB.cell 3 (by decide)
    have z0 := fz 0 (by decide)
    have z1 := fz 1 (by decide)
    have z2 := fz 2 (by decide)
    have z3 := fz 3 (by decide)
    have q0 := fK.cell 0 (by decide)
    have q1 := fK.cell 1 (by decide)
    have q2 := fK.cell 2 (by decide)
    have q3 := fK.cell 3 (by decide)
    simp only [Nat.zero_add, Nat.add_zero] at b0 b1 b2 b3
    simp only [Nat.reduceAdd] at q0 q1 q2 q3
    have hNk := four_num fK hl0
    go_wp2_with (go_at_call 55; refine (cA _ _ (nv_one (by simp) (by first | rfl | exact hAll) hAb)).mono ?_; rintro r w4 ⟨rfl, hb4⟩; obtain ⟨hc4, hf4⟩ := bcell hb4; have hz4_0 : w.heap.size < w4.heap.size := lt_below hb4 ltg; have hl4_0 := Nat.le_of_lt hz4_0; have hz4_1 : w.heap.size + 1 < w4.heap.size := lt_below hb4 ltg; have hl4_1 := Nat.le_of_lt hz4_1; have hz4_2 : w1.heap.size < w4.heap.size := lt_below hb4 ltg; have hl4_2 := Nat.le_of_lt hz4_2; have hz4_3 : w2.heap.size < w4.heap.size := lt_below hb4 ltg; have hl4_3 := Nat.le_of_lt hz4_3; have hA4 := bnext (w0 := w) bgo hb4; have hs4 := hA4.size; clear hb4)
    exact bodyPost_ret (v := .tuple #[A4 R, .int .i64 0]) (by simp only [results, Tryz.results21]; go_simp) rfl ⟨rfl, bgo⟩
end
end Go.Proofs.YtckkibmehjlgaaaGreatDoor

namespace Go.Proofs.YtckkibmehjlgaaaGreatDoor
open Go.RowKit

attribute [local irreducible] W4 NT NV
section
variable (n : Int) (nm : ByteArray) (wd : Int) (f e All R Bs : Nat) (l m : Int) (x : Int) (s g : Bool) (k : Nat) (w : World) (hf : 2 ≤ f ∧ f ≤ 240) (he : e ≤ 15) (hAll : (2 : Int) ^ e - 1 = (All : Int))
  (c35 : ∀ w, Calls Tryz.prog 41 #[.int .i64 n] w fun x w' => x = .returned (.bool true) ∧ w = w')
  (c25 : ∀ w, Calls Tryz.prog 25 #[.int .i64 n] w fun x w' => x = .returned (.tuple #[IV n nm wd f e l m, .int .i64 0]) ∧ Below w.heap.size w w')
  (cS : s = true → ∀ W v, NV 1 1 v W → Calls Tryz.prog 55 #[Z4, v, .int .i64 ((f : Int) + e)] W fun r w' => r = .returned (A4 Bs) ∧ Below W.heap.size W w')
  (hB0 : s = false → ∀ i, W4 Bs i = 0)
include hf he hAll c35 c25 cS hB0
set_option maxHeartbeats 2000000 in
theorem rpack1
  (c36 : ∀ w, Calls Tryz.prog 54 #[IV n nm wd f e l m, DV 1 s g x k] w fun r w' => r = .returned (.bool true) ∧ Below w.heap.size w w')
  (B1 Fr X : Nat) (L : Int) (hl : -1000000 ≤ l ∧ l ≤ 1000000) (hxl : l ≤ x ∧ x ≤ l + 1000000) (hX : x - l + 1 = (X : Int))
  (c38 : ∀ W, Num W (some ⟨w.heap.size, 4, none⟩) 4 4 (lowW (W4 k) 4) → Calls Tryz.prog 56 #[.slice (some ⟨w.heap.size, 4, none⟩) 4 4] W fun e w' => e = .returned (.int .i64 L) ∧ W = w')
  (cK : L < (f : Int) + 1 → ∀ W, Num W (some ⟨w.heap.size, 4, none⟩) 4 4 (lowW (W4 k) 4) → Calls Tryz.prog 55 #[A4 Bs, .slice (some ⟨w.heap.size, 4, none⟩) 4 4, .int .i64 0] W fun r w' => r = .returned (A4 R) ∧ Below W.heap.size W w')
  (c26 : ∀ W, Calls Tryz.prog 46 #[A4 k, .int .i64 0, .int .i64 f] W fun e w' => ∃ r, e = .returned r ∧ NV 19 Fr r w' ∧ Below W.heap.size W w')
  (cF : ∀ W v, NV 19 Fr v W → Calls Tryz.prog 55 #[A4 Bs, v, .int .i64 0] W fun r w' => r = .returned (A4 B1) ∧ Below W.heap.size W w')
  (cE : ¬ L < (f : Int) + 1 → ∀ W v, NV 1 X v W → Calls Tryz.prog 55 #[A4 B1, v, .int .i64 f] W fun r w' => r = .returned (A4 R) ∧ Below W.heap.size W w') :
    Calls Tryz.prog 21 #[.int .i64 n, DV 1 s g x k] w fun r w' => r = .returned (.tuple #[A4 R, .int .i64 0]) ∧ Below w.heap.size w w' := by
  have hp := pow_e' he
  have hAb : All < 18446744073709551616 := by omega
  have hsm := cell_set_map
  go_enter Tryz.func21, Tryz.ntmps21
  go_upto_if 29 with (first
    | (go_at_call 41; refine (c35 _).mono ?_; rintro r w0 ⟨rfl, rfl⟩)
    | (go_at_call 25; refine (c25 _).mono ?_; rintro x w1 ⟨rfl, hb1⟩; obtain ⟨hc1, hf1⟩ := bcell hb1; have hz1_0 : w.heap.size < w1.heap.size := lt_below hb1 ltg; have hl1_0 := Nat.le_of_lt hz1_0; have hz1_1 : w.heap.size + 1 < w1.heap.size := lt_below hb1 ltg; have hl1_1 := Nat.le_of_lt hz1_1; have hA1 := bnext (w0 := w) bgo hb1; have hs1 := hA1.size; clear hb1)
    | (go_at_call 54; refine (c36 _).mono ?_; rintro x w2 ⟨rfl, hb2⟩; obtain ⟨hc2, hf2⟩ := bcell hb2; have hz2_0 : w.heap.size < w2.heap.size := lt_below hb2 ltg; have hl2_0 := Nat.le_of_lt hz2_0; have hz2_1 : w.heap.size + 1 < w2.heap.size := lt_below hb2 ltg; have hl2_1 := Nat.le_of_lt hz2_1; have hz2_2 : w1.heap.size < w2.heap.size := lt_below hb2 ltg; have hl2_2 := Nat.le_of_lt hz2_2; have hA2 := bnext (w0 := w) bgo hb2; have hs2 := hA2.size; clear hb2))
  have hn1 := set_far (Nat.ne_of_gt hz2_2)
  have hn0 := set_far (Nat.ne_of_gt hz2_0)
  have hn2 := set_far (Nat.ne_of_gt hz2_1)
  go_cut [] from 11 (fun wc => Four wc w2.heap.size 0 Bs ∧ Four wc w.heap.size 4 k ∧ (∀ i, i < 4 → wc.cell? ⟨w.heap.size + 1, i, none⟩ = some (.int .u64 0)) ∧ (∀ i, wc.frozen? ⟨w.heap.size + 1, i, none⟩ = false) ∧ (∀ i, wc.frozen? ⟨w2.heap.size, i, none⟩ = false)
      ∧ wc.cell? ⟨w.heap.size, 0, none⟩ = some (.int .i64 1) ∧ wc.cell? ⟨w.heap.size, 2, none⟩ = some (.bool g) ∧ wc.cell? ⟨w.heap.size, 3, none⟩ = some (.int .i64 x)
      ∧ wc.cell? ⟨w1.heap.size, 4, none⟩ = some (.int .i64 ((f : Int) + 1)) ∧ wc.cell? ⟨w1.heap.size, 5, none⟩ = some (.int .i64 e) ∧ wc.cell? ⟨w1.heap.size, 6, none⟩ = some (.int .i64 l) ∧ Below w.heap.size w wc ∧ w2.heap.size < wc.heap.size)
  case first =>
    cases s with
    | false =>
      have hB := hB0 rfl
      clear hB0 cS
      go_wp2
      go_meet
      exact ⟨.of (by rw [hB 0]; go_simp) (by rw [hB 1]; go_simp) (by rw [hB 2]; go_simp) (by rw [hB 3]; go_simp), .of (by go_simp) (by go_simp) (by go_simp) (by go_simp), zeros4 (by go_simp) (by go_simp) (by go_simp) (by go_simp), fun i => by go_simp, fun i => by go_simp, by go_simp, by go_simp, by go_simp, by go_simp, by go_simp, by go_simp, bgo, by simp; try omega⟩
    | true =>
      have hm0 : w.heap.size < w2.heap.size + 1 + 1 := by omega
      have hm1 : w1.heap.size < w2.heap.size + 1 + 1 := by omega
      have hm2 : w.heap.size < w2.heap.size + 2 := by omega
      have hm3 : w1.heap.size < w2.heap.size + 2 := by omega
      replace cS := cS rfl
      clear hB0
      go_wp2_with (go_at_call 55; refine (cS _ _ (nv_one (by simp) rfl (by decide))).mono ?_; rintro r w3 ⟨rfl, hb3⟩; obtain ⟨hc3, hf3⟩ := bcell hb3; have hz3_0 : w.heap.size < w3.heap.size := lt_below hb3 ltg; have hl3_0 := Nat.le_of_lt hz3_0; have hz3_1 : w.heap.size + 1 < w3.heap.size := lt_below hb3 ltg; have hl3_1 := Nat.le_of_lt hz3_1; have hz3_2 : w1.heap.size < w3.heap.size := lt_below hb3 ltg; have hl3_2 := Nat.le_of_lt hz3_2; have hz3_3 : w2.heap.size < w3.heap.size := lt_below hb3 ltg; have hl3_3 := Nat.le_of_lt hz3_3; have hA3 := bnext (w0 := w) bgo hb3; have hs3 := hA3.size; clear hb3)
      go_meet
      exact ⟨.of (by go_simp) (by go_simp) (by go_simp) (by go_simp), .of (by go_simp) (by go_simp) (by go_simp) (by go_simp), zeros4 (by go_simp) (by go_simp) (by go_simp) (by go_simp), fun i => by go_simp, fun i => by go_simp, by go_simp, by go_simp, by go_simp, by go_simp, by go_simp, by go_simp, bgo, by simp; try omega⟩
  case rest =>
    clear cS hB0
    have hcut0 := hcut
    obtain ⟨fB, fK, fz, fr4, fr9, d0, d2, d3, i4, i5, i6, hbw, hsz⟩ := hcut
    have hl0 : w.heap.size < wc.heap.size := by omega
    have hl1 : w.heap.size + 1 < wc.heap.size := by omega
    have hl2 : w1.heap.size < wc.heap.size := by omega
    have hle0 := Nat.le_of_lt hl0
    have hle1 := Nat.le_of_lt hl1
    have hle2 := Nat.le_of_lt hl2
    have hle3 := Nat.le_of_lt hsz
    have b0 := fB.cell 0 (by decide)
    have b1 := fB.cell 1 (by decide)
    have b2 := fB.cell 2 (by decide)
    have b3 := fB.cell 3 (by decide)
    have z0 := fz 0 (by decide)
    have z1 := fz 1 (by decide)
    have z2 := fz 2 (by decide)
    have z3 := fz 3 (by decide)
    have q0 := fK.cell 0 (by decide)
    have q1 := fK.cell 1 (by decide)
    have q2 := fK.cell 2 (by decide)
    have q3 := fK.cell 3 (by decide)
    simp only [Nat.zero_add, Nat.add_zero] at b0 b1 b2 b3
    simp only [Nat.reduceAdd] at q0 q1 q2 q3
    have hNk := four_num fK hl0
    go_upto_region 19 with fail
    go_cut [74] from 11 (fun t wx => t = .bool (decide (L < (f : Int) + 1)) ∧ Four wx w2.heap.size 0 Bs ∧ Four wx w.heap.size 4 k ∧ (∀ i, i < 4 → wx.cell? ⟨w.heap.size + 1, i, none⟩ = some (.int .u64 0)) ∧ (∀ i, wx.frozen? ⟨w.heap.size + 1, i, none⟩ = false) ∧ (∀ i, wx.frozen? ⟨w2.heap.size, i, none⟩ = false)
      ∧ wx.cell? ⟨w.heap.size, 0, none⟩ = some (.int .i64 1) ∧ wx.cell? ⟨w.heap.size, 2, none⟩ = some (.bool g) ∧ wx.cell? ⟨w.heap.size, 3, none⟩ = some (.int .i64 x)
      ∧ wx.cell? ⟨w1.heap.size, 4, none⟩ = some (.int .i64 ((f : Int) + 1)) ∧ wx.cell? ⟨w1.heap.size, 5, none⟩ = some (.int .i64 e) ∧ wx.cell? ⟨w1.heap.size, 6, none⟩ = some (.int .i64 l) ∧ Below w.heap.size w wx ∧ w2.heap.size < wx.heap.size)
    case first =>
      go_region_with (go_at_call 56; refine (c38 _ (hNk.next bgo)).mono ?_; rintro r w4 ⟨rfl, rfl⟩)
      all_goals (
        go_wp2_with fail
        go_meet
        exact ⟨rfl, .of (by go_simp) (by go_simp) (by go_simp) (by go_simp), .of (by go_simp) (by go_simp) (by go_simp) (by go_simp), zeros4 (by go_simp) (by go_simp) (by go_simp) (by go_simp), fun i => by go_simp, fun i => by go_simp, by go_simp, by go_simp, by go_simp, by go_simp, by go_simp, by go_simp, bgo, by simp; try omega⟩)
    case rest =>
      clear hcut0
      clear fB fK fz fr4 fr9 d0 d2 d3 i4 i5 i6 hbw hsz hl0 hl1 hl2 hle0 hle1 hle2 hle3 b0 b1 b2 b3 z0 z1 z2 z3 q0 q1 q2 q3 hNk
      obtain ⟨ht, hcut⟩ := hcut
      obtain ⟨fB, fK, fz, fr4, fr9, d0, d2, d3, i4, i5, i6, hbw, hsz⟩ := hcut
      have hl0 : w.heap.size < wc.heap.size := by omega
      have hl1 : w.heap.size + 1 < wc.heap.size := by omega
      have hl2 : w1.heap.size < wc.heap.size := by omega
      have hle0 := Nat.le_of_lt hl0
      have hle1 := Nat.le_of_lt hl1
      have hle2 := Nat.le_of_lt hl2
      have hle3 := Nat.le_of_lt hsz
      have b0 := fB.cell 0 (by decide)
      have b1 := fB.cell 1 (by decide)
      have b2 := fB.cell 2 (by decide)
      have b3 := fB.cell 3 (by decide)
      have z0 := fz 0 (by decide)
      have z1 := fz 1 (by decide)
      have z2 := fz 2 (by decide)
      have z3 := fz 3 (by decide)
      have q0 := fK.cell 0 (by decide)
      have q1 := fK.cell 1 (by decide)
      have q2 := fK.cell 2 (by decide)
      have q3 := fK.cell 3 (by decide)
      simp only [Nat.zero_add, Nat.add_zero] at b0 b1 b2 b3
      simp only [Nat.reduceAdd] at q0 q1 q2 q3
      have hNk := four_num fK hl0
      by_cases hL : L < (f : Int) + 1
      · rw [decide_eq_true hL] at ht
        subst ht
        replace cK := cK hL
        clear cE
        have hds : ∀ W : World, W.drew.heap.size = W.heap.size := fun W => by simp
        go_wp2
        go_region_with (go_at_call 55; refine (cK _ (hNk.next bgo)).mono ?_; rintro r w5 ⟨rfl, hb5⟩; obtain ⟨hc5, hf5⟩ := bcell hb5; have hz5_0 : w.heap.size < w5.heap.size := lt_below hb5 ltg; have hl5_0 := Nat.le_of_lt hz5_0; have hz5_1 : w.heap.size + 1 < w5.heap.size := lt_below hb5 ltg; have hl5_1 := Nat.le_of_lt hz5_1; have hz5_2 : w1.heap.size < w5.heap.size := lt_below hb5 ltg; have hl5_2 := Nat.le_of_lt hz5_2; have hz5_3 : w2.heap.size < w5.heap.size := lt_below hb5 ltg; have hl5_3 := Nat.le_of_lt hz5_3; have hA5 := bnext (w0 := w) bgo hb5; have hs5 := hA5.size; clear hb5)
        all_goals (
          go_wp2_with fail
          exact bodyPost_ret (v := .tuple #[A4 R, .int .i64 0]) (by simp only [results, Tryz.results21]; go_simp) rfl ⟨rfl, bgo⟩)
      · rw [decide_eq_false hL] at ht
        subst ht
        replace cE := cE (by omega)
        clear cK
        have hds : ∀ W : World, W.drew.heap.size = W.heap.size := fun W => by simp
        go_upto_region 21 with fail
        go_cut [] from 11 (fun wx => Four wx w2.heap.size 0 B1 ∧ Four wx w.heap.size 4 k ∧ (∀ i, i < 4 → wx.cell? ⟨w.heap.size + 1, i, none⟩ = some (.int .u64 0)) ∧ (∀ i, wx.frozen? ⟨w.heap.size + 1, i, none⟩ = false) ∧ (∀ i, wx.frozen? ⟨w2.heap.size, i, none⟩ = false)
      ∧ wx.cell? ⟨w.heap.size, 0, none⟩ = some (.int .i64 1) ∧ wx.cell? ⟨w.heap.size, 2, none⟩ = some (.bool g) ∧ wx.cell? ⟨w.heap.size, 3, none⟩ = some (.int .i64 x)
      ∧ wx.cell? ⟨w1.heap.size, 4, none⟩ = some (.int .i64 ((f : Int) + 1)) ∧ wx.cell? ⟨w1.heap.size, 5, none⟩ = some (.int .i64 e) ∧ wx.cell? ⟨w1.heap.size, 6, none⟩ = some (.int .i64 l) ∧ Below w.heap.size w wx ∧ w2.heap.size < wx.heap.size)
        case first =>
          go_region_with (first
            | (go_at_call 46; refine (c26 _).mono ?_; rintro r w5 ⟨v5, rfl, hv5, hb5⟩; obtain ⟨hc5, hf5⟩ := bcell hb5; have hz5_0 : w.heap.size < w5.heap.size := lt_below hb5 ltg; have hl5_0 := Nat.le_of_lt hz5_0; have hz5_1 : w.heap.size + 1 < w5.heap.size := lt_below hb5 ltg; have hl5_1 := Nat.le_of_lt hz5_1; have hz5_2 : w1.heap.size < w5.heap.size := lt_below hb5 ltg; have hl5_2 := Nat.le_of_lt hz5_2; have hz5_3 : w2.heap.size < w5.heap.size := lt_below hb5 ltg; have hl5_3 := Nat.le_of_lt hz5_3; have hA5 := bnext (w0 := w) bgo hb5; have hs5 := hA5.size; clear hb5)
            | (go_at_call 55; refine (cF _ _ hv5).mono ?_; rintro r w6 ⟨rfl, hb6⟩; obtain ⟨hc6, hf6⟩ := bcell hb6; have hz6_0 : w.heap.size < w6.heap.size := lt_below hb6 ltg; have hl6_0 := Nat.le_of_lt hz6_0; have hz6_1 : w.heap.size + 1 < w6.heap.size := lt_below hb6 ltg; have hl6_1 := Nat.le_of_lt hz6_1; have hz6_2 : w1.heap.size < w6.heap.size := lt_below hb6 ltg; have hl6_2 := Nat.le_of_lt hz6_2; have hz6_3 : w2.heap.size < w6.heap.size := lt_below hb6 ltg; have hl6_3 := Nat.le_of_lt hz6_3; have hA6 := bnext (w0 := w) bgo hb6; have hs6 := hA6.size; clear hb6))
          all_goals (
            go_wp2_with fail
            go_meet
            exact ⟨.of (by go_simp) (by go_simp) (by go_simp) (by go_simp), .of (by go_simp) (by go_simp) (by go_simp) (by go_simp), zeros4 (by go_simp) (by go_simp) (by go_simp) (by go_simp), fun i => by go_simp, fun i => by go_simp, by go_simp, by go_simp, by go_simp, by go_simp, by go_simp, by go_simp, bgo, by simp; try omega⟩)
        case rest =>
          clear fB fK fz fr4 fr9 d0 d2 d3 i4 i5 i6 hbw hsz hl0 hl1 hl2 hle0 hle1 hle2 hle3 b0 b1 b2 b3 z0 z1 z2 z3 q0 q1 q2 q3 hNk
          obtain ⟨fB, fK, fz, fr4, fr9, d0, d2, d3, i4, i5, i6, hbw, hsz⟩ := hcut
          have hl0 : w.heap.size < wc.heap.size := by omega
          have hl1 : w.heap.size + 1 < wc.heap.size := by omega
          have hl2 : w1.heap.size < wc.heap.size := by omega
          have hle0 := Nat.le_of_lt hl0
          have hle1 := Nat.le_of_lt hl1
          have hle2 := Nat.le_of_lt hl2
          have hle3 := Nat.le_of_lt hsz
          have b0 := fB.cell 0 (by decide)
          have b1 := fB.cell 1 (by decide)
          have b2 := fB.cell 2 (by decide)
          have b3 := fB.cell 3 (by decide)
          have z0 := fz 0 (by decide)
          have z1 := fz 1 (by decide)
          have z2 := fz 2 (by decide)
          have z3 := fz 3 (by decide)
          have q0 := fK.cell 0 (by decide)
          have q1 := fK.cell 1 (by decide)
          have q2 := fK.cell 2 (by decide)
          have q3 := fK.cell 3 (by decide)
          simp only [Nat.zero_add, Nat.add_zero] at b0 b1 b2 b3
          simp only [Nat.reduceAdd] at q0 q1 q2 q3
          have hNk := four_num fK hl0
          have hX1 : X < 18446744073709551616 := by omega
          go_wp2_with (go_at_call 55; refine (cE _ _ (nv_one (by simp) (by first | exact hX | omega) hX1)).mono ?_; rintro r w7 ⟨rfl, hb7⟩; obtain ⟨hc7, hf7⟩ := bcell hb7; have hz7_0 : w.heap.size < w7.heap.size := lt_below hb7 ltg; have hl7_0 := Nat.le_of_lt hz7_0; have hz7_1 : w.heap.size + 1 < w7.heap.size := lt_below hb7 ltg; have hl7_1 := Nat.le_of_lt hz7_1; have hz7_2 : w1.heap.size < w7.heap.size := lt_below hb7 ltg; have hl7_2 := Nat.le_of_lt hz7_2; have hz7_3 : w2.heap.size < w7.heap.size := lt_below hb7 ltg; have hl7_3 := Nat.le_of_lt hz7_3; have hA7 := bnext (w0 := w) bgo hb7; have hs7 := hA7.size; clear hb7)
          exact bodyPost_ret (v := .tuple #[A4 R, .int .i64 0]) (by simp only [results, Tryz.results21]; go_simp) rfl ⟨rfl, bgo⟩
end
end Go.Proofs.YtckkibmehjlgaaaGreatDoor

namespace Go.Proofs.YtckkibmehjlgaaaGreatDoor
open Go.RowKit

attribute [local irreducible] W4 NT NV
section
variable (n : Int) (nm : ByteArray) (wd : Int) (f e All R Bs : Nat) (l m : Int) (x : Int) (s g : Bool) (k : Nat) (w : World) (hf : 2 ≤ f ∧ f ≤ 240) (he : e ≤ 15) (hAll : (2 : Int) ^ e - 1 = (All : Int))
  (c35 : ∀ w, Calls Tryz.prog 41 #[.int .i64 n] w fun x w' => x = .returned (.bool true) ∧ w = w')
  (c25 : ∀ w, Calls Tryz.prog 25 #[.int .i64 n] w fun x w' => x = .returned (.tuple #[IV n nm wd f e l m, .int .i64 0]) ∧ Below w.heap.size w w')
  (cS : s = true → ∀ W v, NV 1 1 v W → Calls Tryz.prog 55 #[Z4, v, .int .i64 ((f : Int) + e)] W fun r w' => r = .returned (A4 Bs) ∧ Below W.heap.size W w')
  (hB0 : s = false → ∀ i, W4 Bs i = 0)
include hf he hAll c35 c25 cS hB0
set_option maxHeartbeats 2000000 in
theorem rpack3
  (c36 : ∀ w, Calls Tryz.prog 54 #[IV n nm wd f e l m, DV 3 s g x k] w fun r w' => r = .returned (.bool true) ∧ Below w.heap.size w w')
  (B1 B2 : Nat)
  (cA : ∀ W v, NV 1 All v W → Calls Tryz.prog 55 #[A4 Bs, v, .int .i64 f] W fun r w' => r = .returned (A4 B1) ∧ Below W.heap.size W w')
  (cK : ∀ W, Num W (some ⟨w.heap.size, 4, none⟩) 4 4 (lowW (W4 k) 4) → Calls Tryz.prog 55 #[A4 B1, .slice (some ⟨w.heap.size, 4, none⟩) 4 4, .int .i64 0] W fun r w' => r = .returned (A4 B2) ∧ Below W.heap.size W w')
  (cQ : g = false → ∀ W v, NV 1 1 v W → Calls Tryz.prog 55 #[A4 B2, v, .int .i64 ((f : Int) - 1)] W fun r w' => r = .returned (A4 R) ∧ Below W.heap.size W w')
  (hR : g = true → B2 = R) :
    Calls Tryz.prog 21 #[.int .i64 n, DV 3 s g x k] w fun r w' => r = .returned (.tuple #[A4 R, .int .i64 0]) ∧ Below w.heap.size w w' := by
  have hp := pow_e' he
  have hAb : All < 18446744073709551616 := by omega
  have hsm := cell_set_map
  go_enter Tryz.func21, Tryz.ntmps21
  go_upto_if 29 with (first
    | (go_at_call 41; refine (c35 _).mono ?_; rintro r w0 ⟨rfl, rfl⟩)
    | (go_at_call 25; refine (c25 _).mono ?_; rintro x w1 ⟨rfl, hb1⟩; obtain ⟨hc1, hf1⟩ := bcell hb1; have hz1_0 : w.heap.size < w1.heap.size := lt_below hb1 ltg; have hl1_0 := Nat.le_of_lt hz1_0; have hz1_1 : w.heap.size + 1 < w1.heap.size := lt_below hb1 ltg; have hl1_1 := Nat.le_of_lt hz1_1; have hA1 := bnext (w0 := w) bgo hb1; have hs1 := hA1.size; clear hb1)
    | (go_at_call 54; refine (c36 _).mono ?_; rintro x w2 ⟨rfl, hb2⟩; obtain ⟨hc2, hf2⟩ := bcell hb2; have hz2_0 : w.heap.size < w2.heap.size := lt_below hb2 ltg; have hl2_0 := Nat.le_of_lt hz2_0; have hz2_1 : w.heap.size + 1 < w2.heap.size := lt_below hb2 ltg; have hl2_1 := Nat.le_of_lt hz2_1; have hz2_2 : w1.heap.size < w2.heap.size := lt_below hb2 ltg; have hl2_2 := Nat.le_of_lt hz2_2; have hA2 := bnext (w0 := w) bgo hb2; have hs2 := hA2.size; clear hb2))
  have hn1 := set_far (Nat.ne_of_gt hz2_2)
  have hn0 := set_far (Nat.ne_of_gt hz2_0)
  have hn2 := set_far (Nat.ne_of_gt hz2_1)
  go_cut [] from 11 (fun wc => Four wc w2.heap.size 0 Bs ∧ Four wc w.heap.size 4 k ∧ (∀ i, i < 4 → wc.cell? ⟨w.heap.size + 1, i, none⟩ = some (.int .u64 0)) ∧ (∀ i, wc.frozen? ⟨w.heap.size + 1, i, none⟩ = false) ∧ (∀ i, wc.frozen? ⟨w2.heap.size, i, none⟩ = false)
      ∧ wc.cell? ⟨w.heap.size, 0, none⟩ = some (.int .i64 3) ∧ wc.cell? ⟨w.heap.size, 2, none⟩ = some (.bool g) ∧ wc.cell? ⟨w.heap.size, 3, none⟩ = some (.int .i64 x)
      ∧ wc.cell? ⟨w1.heap.size, 4, none⟩ = some (.int .i64 ((f : Int) + 1)) ∧ wc.cell? ⟨w1.heap.size, 5, none⟩ = some (.int .i64 e) ∧ wc.cell? ⟨w1.heap.size, 6, none⟩ = some (.int .i64 l) ∧ Below w.heap.size w wc ∧ w2.heap.size < wc.heap.size)
  case first =>
    cases s with
    | false =>
      have hB := hB0 rfl
      clear hB0 cS
      go_wp2
      go_meet
      exact ⟨.of (by rw [hB 0]; go_simp) (by rw [hB 1]; go_simp) (by rw [hB 2]; go_simp) (by rw [hB 3]; go_simp), .of (by go_simp) (by go_simp) (by go_simp) (by go_simp), zeros4 (by go_simp) (by go_simp) (by go_simp) (by go_simp), fun i => by go_simp, fun i => by go_simp, by go_simp, by go_simp, by go_simp, by go_simp, by go_simp, by go_simp, bgo, by simp; try omega⟩
    | true =>
      have hm0 : w.heap.size < w2.heap.size + 1 + 1 := by omega
      have hm1 : w1.heap.size < w2.heap.size + 1 + 1 := by omega
      have hm2 : w.heap.size < w2.heap.size + 2 := by omega
      have hm3 : w1.heap.size < w2.heap.size + 2 := by omega
      replace cS := cS rfl
      clear hB0
      go_wp2_with (go_at_call 55; refine (cS _ _ (nv_one (by simp) rfl (by decide))).mono ?_; rintro r w3 ⟨rfl, hb3⟩; obtain ⟨hc3, hf3⟩ := bcell hb3; have hz3_0 : w.heap.size < w3.heap.size := lt_below hb3 ltg; have hl3_0 := Nat.le_of_lt hz3_0; have hz3_1 : w.heap.size + 1 < w3.heap.size := lt_below hb3 ltg; have hl3_1 := Nat.le_of_lt hz3_1; have hz3_2 : w1.heap.size < w3.heap.size := lt_below hb3 ltg; have hl3_2 := Nat.le_of_lt hz3_2; have hz3_3 : w2.heap.size < w3.heap.size := lt_below hb3 ltg; have hl3_3 := Nat.le_of_lt hz3_3; have hA3 := bnext (w0 := w) bgo hb3; have hs3 := hA3.size; clear hb3)
      go_meet
      exact ⟨.of (by go_simp) (by go_simp) (by go_simp) (by go_simp), .of (by go_simp) (by go_simp) (by go_simp) (by go_simp), zeros4 (by go_simp) (by go_simp) (by go_simp) (by go_simp), fun i => by go_simp, fun i => by go_simp, by go_simp, by go_simp, by go_simp, by go_simp, by go_simp, by go_simp, bgo, by simp; try omega⟩
  case rest =>
    clear cS hB0
    have hcut0 := hcut
    obtain ⟨fB, fK, fz, fr4, fr9, d0, d2, d3, i4, i5, i6, hbw, hsz⟩ := hcut
    have hl0 : w.heap.size < wc.heap.size := by omega
    have hl1 : w.heap.size + 1 < wc.heap.size := by omega
    have hl2 : w1.heap.size < wc.heap.size := by omega
    have hle0 := Nat.le_of_lt hl0
    have hle1 := Nat.le_of_lt hl1
    have hle2 := Nat.le_of_lt hl2
    have hle3 := Nat.le_of_lt hsz
    have b0 := fB.cell 0 (by decide)
    have b1 := fB.cell 1 (by decide)
    have b2 := fB.cell 2 (by decide)
    have b3 := fB.cell 3 (by decide)
    have z0 := fz 0 (by decide)
    have z1 := fz 1 (by decide)
    have z2 := fz 2 (by decide)
    have z3 := fz 3 (by decide)
    have q0 := fK.cell 0 (by decide)
    have q1 := fK.cell 1 (by decide)
    have q2 := fK.cell 2 (by decide)
    have q3 := fK.cell 3 (by decide)
    simp only [Nat.zero_add, Nat.add_zero] at b0 b1 b2 b3
    simp only [Nat.reduceAdd] at q0 q1 q2 q3
    have hNk := four_num fK hl0
    go_upto_region 15 with fail
    have hnv := nv_one (W := wc) (g := wc.heap.size) (V := All) (vi := (All : Int)) rfl rfl hAb
    go_cut [] from 11 (fun wx => Four wx w2.heap.size 0 B2 ∧ Four wx w.heap.size 4 k ∧ (∀ i, i < 4 → wx.cell? ⟨w.heap.size + 1, i, none⟩ = some (.int .u64 0)) ∧ (∀ i, wx.frozen? ⟨w.heap.size + 1, i, none⟩ = false) ∧ (∀ i, wx.frozen? ⟨w2.heap.size, i, none⟩ = false)
      ∧ wx.cell? ⟨w.heap.size, 0, none⟩ = some (.int .i64 3) ∧ wx.cell? ⟨w.heap.size, 2, none⟩ = some (.bool g) ∧ wx.cell? ⟨w.heap.size, 3, none⟩ = some (.int .i64 x)
      ∧ wx.cell? ⟨w1.heap.size, 4, none⟩ = some (.int .i64 ((f : Int) + 1)) ∧ wx.cell? ⟨w1.heap.size, 5, none⟩ = some (.int .i64 e) ∧ wx.cell? ⟨w1.heap.size, 6, none⟩ = some (.int .i64 l) ∧ Below w.heap.size w wx ∧ w2.heap.size < wx.heap.size)
    case first =>
      go_region_with (first
        | (have := hA4; go_at_call 55; refine (cK _ (hNk.next hbk)).mono ?_; rintro r w5 ⟨rfl, hb5⟩; obtain ⟨hc5, hf5⟩ := bcell hb5; have hz5_0 : w.heap.size < w5.heap.size := lt_below hb5 ltg; have hl5_0 := Nat.le_of_lt hz5_0; have hz5_1 : w.heap.size + 1 < w5.heap.size := lt_below hb5 ltg; have hl5_1 := Nat.le_of_lt hz5_1; have hz5_2 : w1.heap.size < w5.heap.size := lt_below hb5 ltg; have hl5_2 := Nat.le_of_lt hz5_2; have hz5_3 : w2.heap.size < w5.heap.size := lt_below hb5 ltg; have hl5_3 := Nat.le_of_lt hz5_3; have hA5 := bnext (w0 := w) bgo hb5; have hs5 := hA5.size; clear hb5)
        | (go_at_call 55; refine (cA _ _ (hnv.next bgo)).mono ?_; rintro r w4 ⟨rfl, hb4⟩; have hbk : Below wc.heap.size wc w4 := bnext bgo hb4; obtain ⟨hc4, hf4⟩ := bcell hb4; have hz4_0 : w.heap.size < w4.heap.size := lt_below hb4 ltg; have hl4_0 := Nat.le_of_lt hz4_0; have hz4_1 : w.heap.size + 1 < w4.heap.size := lt_below hb4 ltg; have hl4_1 := Nat.le_of_lt hz4_1; have hz4_2 : w1.heap.size < w4.heap.size := lt_below hb4 ltg; have hl4_2 := Nat.le_of_lt hz4_2; have hz4_3 : w2.heap.size < w4.heap.size := lt_below hb4 ltg; have hl4_3 := Nat.le_of_lt hz4_3; have hA4 := bnext (w0 := w) bgo hb4; have hs4 := hA4.size; clear hb4))
      all_goals (
        go_wp2_with fail
        go_meet
        exact ⟨.of (by go_simp) (by go_simp) (by go_simp) (by go_simp), .of (by go_simp) (by go_simp) (by go_simp) (by go_simp), zeros4 (by go_simp) (by go_simp) (by go_simp) (by go_simp), fun i => by go_simp, fun i => by go_simp, by go_simp, by go_simp, by go_simp, by go_simp, by go_simp, by go_simp, bgo, by simp; try omega⟩)
    case rest =>
      clear hcut0 fB fK fz fr4 fr9 d0 d2 d3 i4 i5 i6 hbw hsz hl0 hl1 hl2 hle0 hle1 hle2 hle3 b0 b1 b2 b3 z0 z1 z2 z3 q0 q1 q2 q3 hNk hnv
      obtain ⟨fB, fK, fz, fr4, fr9, d0, d2, d3, i4, i5, i6, hbw, hsz⟩ := hcut
      have hl0 : w.heap.size < wc.heap.size := by omega
      have hl1 : w.heap.size + 1 < wc.heap.size := by omega
      have hl2 : w1.heap.size < wc.heap.size := by omega
      have hle0 := Nat.le_of_lt hl0
      have hle1 := Nat.le_of_lt hl1
      have hle2 := Nat.le_of_lt hl2
      have hle3 := Nat.le_of_lt hsz
      have b0 := fB.cell 0 (by decide)
      have b1 := fB.cell 1 (by decide)
      have b2 := fB.cell 2 (by decide)
      have b3 := fB.cell 3 (by decide)
      have z0 := fz 0 (by decide)
      have z1 := fz 1 (by decide)
      have z2 := fz 2 (by decide)
      have z3 := fz 3 (by decide)
      have q0 := fK.cell 0 (by decide)
      have q1 := fK.cell 1 (by decide)
      have q2 := fK.cell 2 (by decide)
      have q3 := fK.cell 3 (by decide)
      simp only [Nat.zero_add, Nat.add_zero] at b0 b1 b2 b3
      simp only [Nat.reduceAdd] at q0 q1 q2 q3
      have hNk := four_num fK hl0
      cases g with
      | true =>
        have hr := (hR rfl).symm
        subst hr
        clear cQ hR
        go_wp2
        exact bodyPost_ret (v := .tuple #[A4 R, .int .i64 0]) (by simp only [results, Tryz.results21]; go_simp) rfl ⟨rfl, bgo⟩
      | false =>
        replace cQ := cQ rfl
        clear hR
        go_wp2_with (go_at_call 55; refine (cQ _ _ (nv_one (by simp) rfl (by decide))).mono ?_; rintro r w6 ⟨rfl, hb6⟩; obtain ⟨hc6, hf6⟩ := bcell hb6; have hz6_0 : w.heap.size < w6.heap.size := lt_below hb6 ltg; have hl6_0 := Nat.le_of_lt hz6_0; have hz6_1 : w.heap.size + 1 < w6.heap.size := lt_below hb6 ltg; have hl6_1 := Nat.le_of_lt hz6_1; have hz6_2 : w1.heap.size < w6.heap.size := lt_below hb6 ltg; have hl6_2 := Nat.le_of_lt hz6_2; have hz6_3 : w2.heap.size < w6.heap.size := lt_below hb6 ltg; have hl6_3 := Nat.le_of_lt hz6_3; have hA6 := bnext (w0 := w) bgo hb6; have hs6 := hA6.size; clear hb6)
        exact bodyPost_ret (v := .tuple #[A4 R, .int .i64 0]) (by simp only [results, Tryz.results21]; go_simp) rfl ⟨rfl, bgo⟩
end
end Go.Proofs.YtckkibmehjlgaaaGreatDoor

namespace Go.Proofs.YtckkibmehjlgaaaGreatDoor
open Go.RowKit

set_option maxHeartbeats 1000000 in
theorem rpack_bad (n : Int) (d : Dat) (w : World) (h : ¬ binN n) :
    Calls Tryz.prog 21 #[.int .i64 n, d.v] w fun x w' => x = .returned (.tuple #[Z4, .int .i64 1]) ∧ Below w.heap.size w w' := by
  have c35 := fun w => rbinary_any n w
  rw [decide_eq_false h] at c35
  obtain ⟨c, s, g, x, k⟩ := d
  unfold Dat.v
  dsimp only
  have hsm := cell_set_map
  clear h
  go_enter Tryz.func21, Tryz.ntmps21
  go_wp2_with (go_at_call 41; refine (c35 _).mono ?_; rintro r w0 ⟨rfl, rfl⟩)
  exact bodyPost_ret (v := .tuple #[Z4, .int .i64 1]) (by simp only [results, Tryz.results21]; go_simp) rfl ⟨rfl, bgo⟩
set_option maxHeartbeats 1000000 in
theorem rpack_none (n : Int) (nm : ByteArray) (wd : Int) (f e : Nat) (l m : Int) (c x : Int) (s g : Bool) (k : Nat) (w : World)
    (c35 : ∀ w, Calls Tryz.prog 41 #[.int .i64 n] w fun x w' => x = .returned (.bool true) ∧ w = w')
    (c25 : ∀ w, Calls Tryz.prog 25 #[.int .i64 n] w fun x w' => x = .returned (.tuple #[IV n nm wd f e l m, .int .i64 0]) ∧ Below w.heap.size w w')
    (c36 : ∀ w, Calls Tryz.prog 54 #[IV n nm wd f e l m, DV c s g x k] w fun r w' => r = .returned (.bool false) ∧ Below w.heap.size w w') :
    Calls Tryz.prog 21 #[.int .i64 n, DV c s g x k] w fun x w' => x = .returned (.tuple #[Z4, .int .i64 3]) ∧ Below w.heap.size w w' := by
  have hsm := cell_set_map
  go_enter Tryz.func21, Tryz.ntmps21
  go_wp2_with (first
    | (go_at_call 41; refine (c35 _).mono ?_; rintro r w0 ⟨rfl, rfl⟩)
    | (go_at_call 25; refine (c25 _).mono ?_; rintro x w1 ⟨rfl, hb1⟩; obtain ⟨hc1, hf1⟩ := bcell hb1; have hz1_0 : w.heap.size < w1.heap.size := lt_below hb1 ltg; have hl1_0 := Nat.le_of_lt hz1_0; have hz1_1 : w.heap.size + 1 < w1.heap.size := lt_below hb1 ltg; have hl1_1 := Nat.le_of_lt hz1_1; have hA1 := bnext (w0 := w) bgo hb1; have hs1 := hA1.size; clear hb1)
    | (go_at_call 54; refine (c36 _).mono ?_; rintro x w2 ⟨rfl, hb2⟩; obtain ⟨hc2, hf2⟩ := bcell hb2; have hz2_0 : w.heap.size < w2.heap.size := lt_below hb2 ltg; have hl2_0 := Nat.le_of_lt hz2_0; have hz2_1 : w.heap.size + 1 < w2.heap.size := lt_below hb2 ltg; have hl2_1 := Nat.le_of_lt hz2_1; have hz2_2 : w1.heap.size < w2.heap.size := lt_below hb2 ltg; have hl2_2 := Nat.le_of_lt hz2_2; have hA2 := bnext (w0 := w) bgo hb2; have hs2 := hA2.size; clear hb2))
  exact bodyPost_ret (v := .tuple #[Z4, .int .i64 3]) (by simp only [results, Tryz.results21]; go_simp) rfl ⟨rfl, bgo⟩
theorem rof_bin {n : Int} (hb : binN n) (w : World) : Calls Tryz.prog 25 #[.int .i64 n] w fun x w' => x = .returned (.tuple #[IV n (nameN n) (widthN n) (fN n) (eN n) (leastN n) (mostN n), .int .i64 0]) ∧ Below w.heap.size w w' := by
  obtain ⟨hok, hb2, hpr, hex, hwd, hpy⟩ := bin_fields hb
  obtain ⟨hnum, hden⟩ := bin_more hb
  have c25 := rofv_any n w
  rw [show infoE n = 0 from if_pos hok, hnum, hb2, hpr, hex, hden, hpy] at c25
  exact c25
theorem rpack_any (n : Int) (d : Dat) (w : World) (hk : d.k < 2 ^ 256) :
    Calls Tryz.prog 21 #[.int .i64 n, d.v] w fun x w' => x = .returned (.tuple #[A4 (pkV n d), .int .i64 (pkE n d)]) ∧ Below w.heap.size w w' := by
  by_cases hb : binN n
  · have hF := bin_fm hb
    have c25 := fun w => rof_bin hb w
    have c35 : ∀ w, Calls Tryz.prog 41 #[.int .i64 n] w fun x w' => x = .returned (.bool true) ∧ w = w' := fun w => by
      have := rbinary_any n w
      rw [decide_eq_true hb] at this
      exact this.mono fun _ _ ⟨h1, h2⟩ => ⟨h1, h2.symm⟩
    have c36 := fun w => ris_any n (nameN n) (widthN n) (fN n) (eN n) (leastN n) (mostN n) d w hF hk
    by_cases hi : isD (fN n) (leastN n) (mostN n) d
    · rw [decide_eq_true hi] at c36
      have e1 : pkE n d = 0 := by unfold pkE; rw [if_pos hb, if_pos hi]
      have e2 : pkV n d = pk (fN n) (eN n) (leastN n) d := by unfold pkV; rw [if_pos ⟨hb, hi⟩]
      have h256 := pkV_256 n d
      rw [e2] at h256
      rw [e1, e2]
      clear e1 e2
      have hf : 2 ≤ fN n ∧ fN n ≤ 240 := ⟨hF.f2, hF.f240⟩
      have he := hF.e15
      have hfe := hF.fe
      have hpc : ((2 : Int) ^ eN n) = ((2 ^ eN n : Nat) : Int) := by simp
      have hp := pow_e hF.e2 hF.e15
      rw [hpc] at hp
      have hAll : (2 : Int) ^ eN n - 1 = ((2 ^ eN n - 1 : Nat) : Int) := by rw [hpc]; omega
      have hl1 := hF.l1
      have hl0 := hF.l0
      have hm := hF.m
      rw [hpc] at hm
      generalize fN n = f at *
      generalize eN n = e at *
      generalize leastN n = l at *
      generalize mostN n = m at *
      obtain ⟨c, s, g, x, k⟩ := d
      unfold Dat.v at *
      dsimp only at hk c36 ⊢
      have hBs : (if s then 2 ^ (f + e) else 0) < 2 ^ 256 := by
        cases s
        · rw [if_neg (by decide)]; decide
        · exact Nat.pow_lt_pow_right (by decide) (by omega)
      have cS : s = true → ∀ W v, NV 1 1 v W → Calls Tryz.prog 55 #[Z4, v, .int .i64 ((f : Int) + e)] W fun r w' => r = .returned (A4 (if s then 2 ^ (f + e) else 0)) ∧ Below W.heap.size W w' := fun hs W v hv => by
        have := lay_any 0 1 (f + e) 1 v W (by decide) (by decide) (by omega) hv
        rw [Z4_eq, Int.natCast_add, Nat.zero_add, Nat.one_mul] at this
        rw [hs, if_pos rfl]; exact this
      have hB0 : s = false → ∀ i, W4 (if s then 2 ^ (f + e) else 0) i = 0 := fun hs i => by rw [hs, if_neg (by decide), W4_zero]
      have hNv : val (lowW (W4 k) 4) 4 = (k : Int) := by
        rw [val_congr (x := lowW (W4 k) 4) (y := W4 k) 4 (fun i hi => lowW_lt hi), W4_val4 hk]
      unfold pk at h256 ⊢
      dsimp only at h256 ⊢
      rcases hi with ⟨hc, hg, hk1, hx1, hx2, hx3⟩ | ⟨hc, hg, hx, hk0⟩ | ⟨hc, hx, hk1, hg⟩
      · dsimp only at hc hg hk1 hx1 hx2 hx3
        subst hc
        rw [if_pos rfl] at h256 ⊢
        generalize (if s then 2 ^ (f + e) else 0) = Bs at *
        have hL := len4_le (k := f) hk
        have hpf : 2 ^ (f + 1) = 2 ^ f + 2 ^ f := by rw [Nat.pow_succ]; omega
        have hFr : k % 2 ^ f < 2 ^ f := Nat.mod_lt _ (Nat.two_pow_pos _)
        have hFk : k % 2 ^ f ≤ k := Nat.mod_le _ _
        have c26 : ∀ W, Calls Tryz.prog 46 #[A4 k, .int .i64 0, .int .i64 f] W fun e w' => ∃ r, e = .returned r ∧ NV 19 (k % 2 ^ f) r w' ∧ Below W.heap.size W w' := fun W => by
          have := field_any k 0 f W hk (by decide) (by omega)
          rw [show ((0 : Nat) : Int) = 0 from rfl, Nat.pow_zero, Nat.div_one] at this
          exact this.mono fun _ _ ⟨r, h1, h2, h3⟩ => ⟨r, h1, h2.nv, h3⟩
        have cF : ∀ W v, NV 19 (k % 2 ^ f) v W → Calls Tryz.prog 55 #[A4 Bs, v, .int .i64 0] W fun r w' => r = .returned (A4 (Bs + k % 2 ^ f)) ∧ Below W.heap.size W w' := fun W v hv => by
          have := lay_any Bs (k % 2 ^ f) 0 19 v W hBs (by decide) (by decide) hv
          rw [show ((0 : Nat) : Int) = 0 from rfl, Nat.pow_zero, Nat.mul_one] at this
          exact this
        have c38 : ∀ W, Num W (some ⟨w.heap.size, 4, none⟩) 4 4 (lowW (W4 k) 4) → Calls Tryz.prog 56 #[.slice (some ⟨w.heap.size, 4, none⟩) 4 4] W fun e w' => e = .returned (.int .i64 (lenL (W4 k) 4)) ∧ W = w' := fun W hN => by
          have := rlen_num (some ⟨w.heap.size, 4, none⟩) 4 4 (lowW (W4 k) 4) W (by decide) hN
          rw [lenL_low] at this
          exact this
        have hmul : ((x - l).toNat + 1) * 2 ^ f = (x - l).toNat * 2 ^ f + 2 ^ f := by rw [Nat.add_mul, Nat.one_mul]
        refine rpack1 n _ _ f e (2 ^ e - 1) _ Bs l m x s g k w hf he hAll c35 c25 cS hB0 c36 (Bs + k % 2 ^ f) (k % 2 ^ f) ((x - l).toNat + 1) (lenL (W4 k) 4) (by omega) (by omega) (by omega) c38 ?_ c26 cF ?_
        · intro hlt W hN
          have hkf : k < 2 ^ f := hL.1 (by omega)
          obtain rfl : x = l := by omega
          have := lay_off Bs k 0 4 w.heap.size 4 4 _ W hBs (by decide) (by decide) hN hNv
          rw [show ((0 : Nat) : Int) = 0 from rfl, Nat.pow_zero, Nat.mul_one] at this
          rw [Int.sub_self, Int.toNat_zero, Nat.zero_mul, Nat.zero_add, Nat.add_comm k]
          exact this
        · intro hlt W v hv
          have hkf : 2 ^ f ≤ k := by
            rcases Nat.lt_or_ge k (2 ^ f) with hh | hh
            · have := hL.2 hh; omega
            · exact hh
          have hke : k % 2 ^ f + 2 ^ f = k := by
            rw [Nat.mod_eq_sub_mod hkf, Nat.mod_eq_of_lt (by omega)]; omega
          have := lay_any (Bs + k % 2 ^ f) ((x - l).toNat + 1) f 1 v W (by omega) (by decide) (by omega) hv
          rw [show Bs + k % 2 ^ f + ((x - l).toNat + 1) * 2 ^ f = (x - l).toNat * 2 ^ f + k + Bs by omega] at this
          exact this
      · dsimp only at hc hg hx hk0
        subst hc
        rw [if_neg (by decide), if_pos rfl, Nat.add_zero] at h256 ⊢
        generalize (if s then 2 ^ (f + e) else 0) = Bs at *
        refine rpack2 n _ _ f e (2 ^ e - 1) _ Bs l m x s g k w hf he hAll c35 c25 cS hB0 c36 fun W v hv => ?_
        have := lay_any Bs (2 ^ e - 1) f 1 v W hBs (by decide) (by omega) hv
        rw [Nat.add_comm Bs] at this
        exact this
      · dsimp only at hc hx hk1 hg
        subst hc
        rw [if_neg (by decide), if_neg (by decide)] at h256 ⊢
        generalize (if s then 2 ^ (f + e) else 0) = Bs at *
        generalize hA : (2 ^ e - 1) * 2 ^ f = A at *
        have hlt : A + k + Bs < 2 ^ 256 := by cases g <;> simp at h256 <;> omega
        refine rpack3 n _ _ f e (2 ^ e - 1) _ Bs l m x s g k w hf he hAll c35 c25 cS hB0 c36 (Bs + A) (Bs + A + k) ?_ ?_ ?_ ?_
        · intro W v hv
          have := lay_any Bs (2 ^ e - 1) f 1 v W hBs (by decide) (by omega) hv
          rw [hA] at this
          exact this
        · intro W hN
          have := lay_off (Bs + A) k 0 4 w.heap.size 4 4 _ W (by omega) (by decide) (by decide) hN hNv
          rw [show ((0 : Nat) : Int) = 0 from rfl, Nat.pow_zero, Nat.mul_one] at this
          exact this
        · intro hg W v hv
          have := lay_any (Bs + A + k) 1 (f - 1) 1 v W (by omega) (by decide) (by omega) hv
          rw [show ((f - 1 : Nat) : Int) = (f : Int) - 1 by omega, Nat.one_mul] at this
          subst hg
          rw [if_neg (by decide), show A + (k + 2 ^ (f - 1)) + Bs = Bs + A + k + 2 ^ (f - 1) by omega]
          exact this
        · intro hg
          subst hg
          rw [if_pos rfl]; omega
    · rw [decide_eq_false hi] at c36
      have e1 : pkE n d = 3 := by unfold pkE; rw [if_pos hb, if_neg hi]
      have e2 : pkV n d = 0 := by unfold pkV; exact if_neg fun h => hi h.2
      rw [e1, e2, Z4_eq]
      exact rpack_none n _ _ _ _ _ _ _ _ _ _ _ w c35 c25 c36
  · have e1 : pkV n d = 0 := if_neg fun h => hb h.1
    have e2 : pkE n d = 1 := if_neg hb
    rw [e1, e2, Z4_eq]
    exact rpack_bad n d w hb
end Go.Proofs.YtckkibmehjlgaaaGreatDoor
