/-
  Texts that the proof leans on, joined: Yl.
-/
import Derived.Test.YtpfnfaekgaipjaaDoorJ17
import Derived.Test.YtpfnfaekgaipjaaDoorJ18
import Derived.Test.YtpfnfaekgaipjaaDoorJ1
set_option linter.unusedVariables false
set_option linter.unusedSectionVars false
set_option linter.unusedSimpArgs false
set_option maxRecDepth 20000
namespace Go.Proofs.YtpfnfaekgaipjaaDoor
open Go.RowKit

attribute [local irreducible] W4
/-- how many of the first were inexact -/
def smF (F : Nat → Int) : Nat → Int
  | 0 => 0
  | j + 1 => smF F j + (F j).tdiv 8
theorem smF_bd {F : Nat → Int} (hF : ∀ i, 0 ≤ F i ∧ F i ≤ 100) : ∀ j : Nat, 0 ≤ smF F j ∧ smF F j ≤ 100 * j
  | 0 => ⟨Int.le_refl _, Int.le_refl _⟩
  | j + 1 => by
    obtain ⟨h1, h2⟩ := smF_bd hF j
    have h3 := hF j
    have h4 : (F j).tdiv 8 = F j / 8 := Int.tdiv_eq_ediv_of_nonneg h3.1
    show 0 ≤ smF F j + (F j).tdiv 8 ∧ smF F j + (F j).tdiv 8 ≤ 100 * ((j + 1 : Nat) : Int)
    rw [h4]
    omega
def rwV (R : Nat → Nat) (j i q : Nat) : Int := if i < j then W4 (R i) q else 0
/-- the first j of the five patterns lie in the array -/
structure SdW (w : World) (g : Nat) (R : Nat → Nat) (j : Nat) (wr : World) : Prop where
  bel : Below w.heap.size w wr
  lt : g < wr.heap.size
  ge : w.heap.size ≤ g
  cel : ∀ i, i < 20 → wr.cell? ⟨g, i, none⟩ = some (.int .u64 (rwV R j (i / 4) (i % 4)))
  fro : ∀ i, i < 20 → wr.frozen? ⟨g, i, none⟩ = false
theorem NVB {g X : Nat} {w : World} (hX : X < 2 ^ 256) (h : B4 g X w) : NV 4 X (.slice (some ⟨g, 0, none⟩) 4 4) w := by
  obtain ⟨hg, h0, h1, h2, h3, _, _, _, _⟩ := h
  unfold NV
  refine ⟨g, 4, 4, fun i => if i < 4 then W4 X i else 0, rfl, Nat.le_refl _, ⟨Nat.le_refl _, by unfold maxLen; omega, fun i => ?_, fun i hi => if_neg (by omega), Or.inr ⟨g, 0, rfl, hg, fun i hi => ?_⟩⟩, ?_⟩
  · dsimp only
    split
    · exact W4_words X i
    · exact ⟨Int.le_refl _, by decide⟩
  · have : i = 0 ∨ i = 1 ∨ i = 2 ∨ i = 3 := by omega
    rcases this with rfl | rfl | rfl | rfl
    · exact h0
    · exact h1
    · exact h2
    · exact h3
  · have e := W4_val4 hX
    rw [← e]
    simp [val]
theorem A4_selfB {X : Nat} (hX : X < 2 ^ 256) (w : World) : Sem.run Tryd.prog (Op.equalIn 10000 28 (A4 X) (A4 X)) w = .ok true w := by
  have := eqB_run hX hX w
  rw [decide_eq_true rfl] at this
  exact this
theorem rsame_nt1 {K K' : Nat} {v v' : Value} {w : World} (h : NT K 1 v w) (h' : NT K' 1 v' w) (hK : K < 1000000 := by decide) (hK' : K' < 1000000 := by decide) :
    Calls Tryd.prog 10 #[v, v'] w fun e w' => e = .returned (.bool true) ∧ w = w' := by
  unfold NT at h h'
  obtain ⟨g, k, c, z, rfl, hk, hN, hz, _⟩ := h
  obtain ⟨g', k', c', z', rfl, hk', hN', hz', _⟩ := h'
  exact rsame_any _ _ k c k' c' z z' w (by omega) (by omega) hN hN' (by rw [hz, hz'])
section
variable (n x : Int) (s : Bool) (a a' : Option Addr) (k c k' c' : Nat) (w : World) (hT : Tab w) (hk : k ≤ c ∧ (c : Int) ≤ 9223372036854775807) (hk' : k' ≤ c' ∧ (c' : Int) ≤ 9223372036854775807) (h : (k : Int) ≤ 100) (h' : (k' : Int) ≤ 100)
  (c5 : ∀ W, Calls Tryd.prog 5 #[.int .i64 n] W fun r w' => r = .returned (.bool true) ∧ W = w')
  (sz : Int) (hsz : (sz == 0) = false)
  (c6 : ∀ W, Below w.heap.size w W → Calls Tryd.prog 6 #[.slice a' k' c'] W fun r w' => r = .returned (.int .i64 sz) ∧ W = w')
  (R : Nat → Nat) (F : Nat → Int) (hF : ∀ i, 0 ≤ F i ∧ F i ≤ 100)
  (c7 : ∀ (i : Nat) W, i < 5 → Below w.heap.size w W → Calls Tryd.prog 7 #[.int .i64 n, .int .i64 (i : Int), .bool s, .slice a k c, .slice a' k' c', .int .i64 x] W fun r w' => r = .returned (.tuple #[A4 (R i), .int .i64 (F i), .int .i64 0]) ∧ Below W.heap.size W w')
include hT hk hk' h h' c5 hsz c6 hF c7
set_option maxHeartbeats 8000000 in
theorem sd_Af (hsb : s = false) (X : Nat) (hall : ∀ i, i < 5 → R i = X) (bX : X < 2 ^ 256) (hs5 : smF F 5 = 0) :
    Calls Tryd.prog 3 #[.int .i64 n, .bool s, .slice a k c, .slice a' k' c', .int .i64 x] w fun r w' => r = .returned (.bool true) ∧ Below w.heap.size w w' := by
  subst hsb
  have HALL : Hid (∀ i, i < 5 → R i = X) := hall
  clear hall
  have HS5 : Hid (smF F 5 = 0) := hs5
  clear hs5
  have c4 := awake6
  have hsm := cell_set_map
  unfold A4 at c7
  go_enter Tryd.func3, Tryd.ntmps3
  go_wp2_with (first
    | (go_at_call 4; refine (c4 _ (hT.go bgo)).mono ?_; rintro r w1 ⟨rfl, hb1⟩; obtain ⟨hc1, hf1⟩ := bcell hb1; have hA1 := bnext (w0 := w) bgo hb1; have hs1 := hA1.size; clear hb1)
    | (go_at_call 5; refine (c5 _).mono ?_; rintro r w2 ⟨rfl, rfl⟩)
    | (go_at_call 6; refine (c6 _ bgo).mono ?_; rintro r w2 ⟨rfl, rfl⟩))
  go_loopw [12, 41] (fun t12 t41 wr => ∃ j : Nat, j ≤ 5 ∧ t41 = .int .i64 (j : Int) ∧ t12 = .int .i64 (smF F j) ∧ SdW w w1.heap.size R j wr) (fun _ t41 _ => 5 - (intOf t41).toNat)
  case atStart =>
    have hz : ∀ i q, rwV R 0 i q = 0 := fun _ _ => if_neg (by omega)
    refine ⟨0, by decide, rfl, rfl, bgo, by simp, hs1, fun i hi => ?_, fun i hi => ?_⟩
    · rw [hz]
      have hor : i = 0 ∨ i = 1 ∨ i = 2 ∨ i = 3 ∨ i = 4 ∨ i = 5 ∨ i = 6 ∨ i = 7 ∨ i = 8 ∨ i = 9 ∨ i = 10 ∨ i = 11 ∨ i = 12 ∨ i = 13 ∨ i = 14 ∨ i = 15 ∨ i = 16 ∨ i = 17 ∨ i = 18 ∨ i = 19 := by omega
      rcases hor with rfl | rfl | rfl | rfl | rfl | rfl | rfl | rfl | rfl | rfl | rfl | rfl | rfl | rfl | rfl | rfl | rfl | rfl | rfl | rfl <;> go_simp
    · go_simp
  case round =>
    obtain ⟨j, hj, rfl, rfl, hR⟩ := hrel
    have hA0 := hR.bel
    have hl0 := hR.lt
    have hs0 := hA0.size
    by_cases h5 : j = 5
    · subst h5
      have kk : ∀ i, i < 20 → wr.cell? ⟨w1.heap.size, i, none⟩ = some (.int .u64 (W4 (R (i / 4)) (i % 4))) := fun i hi => by
        have := hR.cel i hi
        rw [show rwV R 5 (i / 4) (i % 4) = W4 (R (i / 4)) (i % 4) from if_pos (by omega)] at this
        exact this
      clear hR c7 c6 c5 c4
      rw [HS5.out]
      have k0 : wr.cell? ⟨w1.heap.size, 0, none⟩ = some (.int .u64 (W4 (R 0) 0)) := kk 0 (by decide)
      have k1 : wr.cell? ⟨w1.heap.size, 1, none⟩ = some (.int .u64 (W4 (R 0) 1)) := kk 1 (by decide)
      have k2 : wr.cell? ⟨w1.heap.size, 2, none⟩ = some (.int .u64 (W4 (R 0) 2)) := kk 2 (by decide)
      have k3 : wr.cell? ⟨w1.heap.size, 3, none⟩ = some (.int .u64 (W4 (R 0) 3)) := kk 3 (by decide)
      have k4 : wr.cell? ⟨w1.heap.size, 4, none⟩ = some (.int .u64 (W4 (R 1) 0)) := kk 4 (by decide)
      have k5 : wr.cell? ⟨w1.heap.size, 5, none⟩ = some (.int .u64 (W4 (R 1) 1)) := kk 5 (by decide)
      have k6 : wr.cell? ⟨w1.heap.size, 6, none⟩ = some (.int .u64 (W4 (R 1) 2)) := kk 6 (by decide)
      have k7 : wr.cell? ⟨w1.heap.size, 7, none⟩ = some (.int .u64 (W4 (R 1) 3)) := kk 7 (by decide)
      have k8 : wr.cell? ⟨w1.heap.size, 8, none⟩ = some (.int .u64 (W4 (R 2) 0)) := kk 8 (by decide)
      have k9 : wr.cell? ⟨w1.heap.size, 9, none⟩ = some (.int .u64 (W4 (R 2) 1)) := kk 9 (by decide)
      have k10 : wr.cell? ⟨w1.heap.size, 10, none⟩ = some (.int .u64 (W4 (R 2) 2)) := kk 10 (by decide)
      have k11 : wr.cell? ⟨w1.heap.size, 11, none⟩ = some (.int .u64 (W4 (R 2) 3)) := kk 11 (by decide)
      have k12 : wr.cell? ⟨w1.heap.size, 12, none⟩ = some (.int .u64 (W4 (R 3) 0)) := kk 12 (by decide)
      have k13 : wr.cell? ⟨w1.heap.size, 13, none⟩ = some (.int .u64 (W4 (R 3) 1)) := kk 13 (by decide)
      have k14 : wr.cell? ⟨w1.heap.size, 14, none⟩ = some (.int .u64 (W4 (R 3) 2)) := kk 14 (by decide)
      have k15 : wr.cell? ⟨w1.heap.size, 15, none⟩ = some (.int .u64 (W4 (R 3) 3)) := kk 15 (by decide)
      have k16 : wr.cell? ⟨w1.heap.size, 16, none⟩ = some (.int .u64 (W4 (R 4) 0)) := kk 16 (by decide)
      have k17 : wr.cell? ⟨w1.heap.size, 17, none⟩ = some (.int .u64 (W4 (R 4) 1)) := kk 17 (by decide)
      have k18 : wr.cell? ⟨w1.heap.size, 18, none⟩ = some (.int .u64 (W4 (R 4) 2)) := kk 18 (by decide)
      have k19 : wr.cell? ⟨w1.heap.size, 19, none⟩ = some (.int .u64 (W4 (R 4) 3)) := kk 19 (by decide)
      clear kk
      go_wp2
      refine reg18 (h11 := w1.heap.size) (X3 := R 3) (X4 := R 4) rfl rfl hl0 k12 k13 k14 k15 k16 k17 k18 k19 ?_
      intro a' w4 g h e17 e18 hne hg hh hBg hBh hsz' hdf hFr hb4
      have ha := act_of slots18 7 rfl hsz' hdf hFr
      rw [ha]
      simp only [slots18, List.foldl_cons, List.foldl_nil, Act.put, List.setIfInBounds_toArray, List.set_cons_succ, List.set_cons_zero, e17, e18]
      generalize slot a' 71 = s71
      generalize slot a' 72 = s72
      generalize slot a' 73 = s73
      generalize slot a' 74 = s74
      generalize slot a' 100 = s100
      clear ha e17 e18 hsz' hdf hFr
      replace k0 := (hb4.cell (p := ⟨w1.heap.size, 0, none⟩) hl0).trans k0
      replace k1 := (hb4.cell (p := ⟨w1.heap.size, 1, none⟩) hl0).trans k1
      replace k2 := (hb4.cell (p := ⟨w1.heap.size, 2, none⟩) hl0).trans k2
      replace k3 := (hb4.cell (p := ⟨w1.heap.size, 3, none⟩) hl0).trans k3
      replace k4 := (hb4.cell (p := ⟨w1.heap.size, 4, none⟩) hl0).trans k4
      replace k5 := (hb4.cell (p := ⟨w1.heap.size, 5, none⟩) hl0).trans k5
      replace k6 := (hb4.cell (p := ⟨w1.heap.size, 6, none⟩) hl0).trans k6
      replace k7 := (hb4.cell (p := ⟨w1.heap.size, 7, none⟩) hl0).trans k7
      replace k8 := (hb4.cell (p := ⟨w1.heap.size, 8, none⟩) hl0).trans k8
      replace k9 := (hb4.cell (p := ⟨w1.heap.size, 9, none⟩) hl0).trans k9
      replace k10 := (hb4.cell (p := ⟨w1.heap.size, 10, none⟩) hl0).trans k10
      replace k11 := (hb4.cell (p := ⟨w1.heap.size, 11, none⟩) hl0).trans k11
      clear k12 k13 k14 k15 k16 k17 k18 k19
      have hl4 : w1.heap.size < w4.heap.size := Nat.lt_of_lt_of_le hl0 hb4.size
      have hA4 := bnext (w0 := w) hA0 hb4
      have hs4 := hA4.size
      have hg1 : w1.heap.size ≠ g := by omega
      have hg2 : w1.heap.size ≠ h := by omega
      have hgw : w.heap.size ≤ g := by omega
      have hhw : w.heap.size ≤ h := by omega
      clear hb4
      go_wp2
      have hBl := hBg
      have hBu := hBh
      have hA5 := hA4
      have hl5 := hl4
      clear hBg hBh
      have hall := HALL.out
      have bl : R 4 < 2 ^ 256 := by rw [hall 4 (by decide)]; exact bX
      have bu : R 3 < 2 ^ 256 := by rw [hall 3 (by decide)]; exact bX
      have hle : R 4 ≤ R 3 := by rw [hall 4 (by decide), hall 3 (by decide)]; exact Nat.le_refl _
      clear hall
      refine reg21 (g := g) (h := h) (K := 8) (X := R 3 - R 4) rfl rfl rfl (fun W hW => rless_nt (by decide) (by decide) (NVB bu (hBu.next hW)) (NVB bl (hBl.next hW)) hle) ?_
      intro a'' w6 u e19 hu hsz' hdf hFr hb6
      have ha := act_of slotsA21 4 rfl hsz' hdf hFr
      rw [ha]
      simp only [slotsA21, List.foldl_cons, List.foldl_nil, Act.put, List.setIfInBounds_toArray, List.set_cons_succ, List.set_cons_zero, e19]
      generalize slot a'' 78 = r78
      generalize slot a'' 79 = r79
      generalize slot a'' 80 = r80
      clear ha e19 hsz' hdf hFr
      replace k0 := (hb6.cell (p := ⟨w1.heap.size, 0, none⟩) hl5).trans k0
      replace k1 := (hb6.cell (p := ⟨w1.heap.size, 1, none⟩) hl5).trans k1
      replace k2 := (hb6.cell (p := ⟨w1.heap.size, 2, none⟩) hl5).trans k2
      replace k3 := (hb6.cell (p := ⟨w1.heap.size, 3, none⟩) hl5).trans k3
      replace k4 := (hb6.cell (p := ⟨w1.heap.size, 4, none⟩) hl5).trans k4
      replace k5 := (hb6.cell (p := ⟨w1.heap.size, 5, none⟩) hl5).trans k5
      replace k6 := (hb6.cell (p := ⟨w1.heap.size, 6, none⟩) hl5).trans k6
      replace k7 := (hb6.cell (p := ⟨w1.heap.size, 7, none⟩) hl5).trans k7
      replace k8 := (hb6.cell (p := ⟨w1.heap.size, 8, none⟩) hl5).trans k8
      replace k9 := (hb6.cell (p := ⟨w1.heap.size, 9, none⟩) hl5).trans k9
      replace k10 := (hb6.cell (p := ⟨w1.heap.size, 10, none⟩) hl5).trans k10
      replace k11 := (hb6.cell (p := ⟨w1.heap.size, 11, none⟩) hl5).trans k11
      replace hBl := hBl.next hb6
      replace hBu := hBu.next hb6
      have hl6 : w1.heap.size < w6.heap.size := Nat.lt_of_lt_of_le hl5 hb6.size
      have hA6 := bnext (w0 := w) hA5 hb6
      clear hb6 hle
      have hself := A4_selfB bX
      have hall := HALL.out
      unfold A4 at hself
      rw [hall 0 (by decide)] at k0 k1 k2 k3
      rw [hall 1 (by decide)] at k4 k5 k6 k7
      rw [hall 2 (by decide)] at k8 k9 k10 k11
      rw [hall 4 (by decide)] at hBl
      rw [hall 3 (by decide)] at hBu
      obtain ⟨g0, g1, g2, g3, g4, g5, g6, g7, g8⟩ := hBl
      obtain ⟨i0, i1, i2, i3, i4, i5, i6, i7, i8⟩ := hBu
      clear hall
      go_wp2
      go_ret
      exact ⟨by simp, hA6⟩
    · have hor : j = 0 ∨ j = 1 ∨ j = 2 ∨ j = 3 ∨ j = 4 := by omega
      rcases hor with rfl | rfl | rfl | rfl | rfl
      · have k0 : wr.cell? ⟨w1.heap.size, 0, none⟩ = some (.int .u64 (0)) := hR.cel 0 (by decide)
        have k1 : wr.cell? ⟨w1.heap.size, 1, none⟩ = some (.int .u64 (0)) := hR.cel 1 (by decide)
        have k2 : wr.cell? ⟨w1.heap.size, 2, none⟩ = some (.int .u64 (0)) := hR.cel 2 (by decide)
        have k3 : wr.cell? ⟨w1.heap.size, 3, none⟩ = some (.int .u64 (0)) := hR.cel 3 (by decide)
        have k4 : wr.cell? ⟨w1.heap.size, 4, none⟩ = some (.int .u64 (0)) := hR.cel 4 (by decide)
        have k5 : wr.cell? ⟨w1.heap.size, 5, none⟩ = some (.int .u64 (0)) := hR.cel 5 (by decide)
        have k6 : wr.cell? ⟨w1.heap.size, 6, none⟩ = some (.int .u64 (0)) := hR.cel 6 (by decide)
        have k7 : wr.cell? ⟨w1.heap.size, 7, none⟩ = some (.int .u64 (0)) := hR.cel 7 (by decide)
        have k8 : wr.cell? ⟨w1.heap.size, 8, none⟩ = some (.int .u64 (0)) := hR.cel 8 (by decide)
        have k9 : wr.cell? ⟨w1.heap.size, 9, none⟩ = some (.int .u64 (0)) := hR.cel 9 (by decide)
        have k10 : wr.cell? ⟨w1.heap.size, 10, none⟩ = some (.int .u64 (0)) := hR.cel 10 (by decide)
        have k11 : wr.cell? ⟨w1.heap.size, 11, none⟩ = some (.int .u64 (0)) := hR.cel 11 (by decide)
        have k12 : wr.cell? ⟨w1.heap.size, 12, none⟩ = some (.int .u64 (0)) := hR.cel 12 (by decide)
        have k13 : wr.cell? ⟨w1.heap.size, 13, none⟩ = some (.int .u64 (0)) := hR.cel 13 (by decide)
        have k14 : wr.cell? ⟨w1.heap.size, 14, none⟩ = some (.int .u64 (0)) := hR.cel 14 (by decide)
        have k15 : wr.cell? ⟨w1.heap.size, 15, none⟩ = some (.int .u64 (0)) := hR.cel 15 (by decide)
        have k16 : wr.cell? ⟨w1.heap.size, 16, none⟩ = some (.int .u64 (0)) := hR.cel 16 (by decide)
        have k17 : wr.cell? ⟨w1.heap.size, 17, none⟩ = some (.int .u64 (0)) := hR.cel 17 (by decide)
        have k18 : wr.cell? ⟨w1.heap.size, 18, none⟩ = some (.int .u64 (0)) := hR.cel 18 (by decide)
        have k19 : wr.cell? ⟨w1.heap.size, 19, none⟩ = some (.int .u64 (0)) := hR.cel 19 (by decide)
        have f0 : wr.frozen? ⟨w1.heap.size, 0, none⟩ = false := hR.fro 0 (by decide)
        have f1 : wr.frozen? ⟨w1.heap.size, 1, none⟩ = false := hR.fro 1 (by decide)
        have f2 : wr.frozen? ⟨w1.heap.size, 2, none⟩ = false := hR.fro 2 (by decide)
        have f3 : wr.frozen? ⟨w1.heap.size, 3, none⟩ = false := hR.fro 3 (by decide)
        have hFj := hF 0
        have hq1 : 0 ≤ (F 0).tdiv 8 := Int.tdiv_nonneg hFj.1 (by decide)
        have hq2 : (F 0).tdiv 8 ≤ 100 := by rw [Int.tdiv_eq_ediv_of_nonneg hFj.1]; omega
        have hm1 := smF_bd hF 0
        have c7j := fun W hW => c7 0 W (by decide) hW
        have HR : Hid (SdW w w1.heap.size R 0 wr) := hR
        have HS : Hid (smF F 1 = smF F 0 + (F 0).tdiv 8) := rfl
        generalize smF F 0 = sm at *
        clear hR
        go_wp2_with (first
          | (go_at_call 7; refine (c7j _ bgo).mono ?_; rintro r w3 ⟨rfl, hb3⟩; obtain ⟨hc3, hf3⟩ := bcell hb3; have hz3_0 : w1.heap.size < w3.heap.size := lt_below hb3 ltg; have hl3_0 := Nat.le_of_lt hz3_0; have hA3 := bnext (w0 := w) bgo hb3; have hs3 := hA3.size; clear hb3))
        go_round
        case rel =>
          have hfr := HR.out.fro
          refine ⟨1, by decide, rfl, by rw [HS.out], bgo, by simp; omega, hs1, fun i hi => ?_, fun i hi => ?_⟩
          · have hor : i = 0 ∨ i = 1 ∨ i = 2 ∨ i = 3 ∨ i = 4 ∨ i = 5 ∨ i = 6 ∨ i = 7 ∨ i = 8 ∨ i = 9 ∨ i = 10 ∨ i = 11 ∨ i = 12 ∨ i = 13 ∨ i = 14 ∨ i = 15 ∨ i = 16 ∨ i = 17 ∨ i = 18 ∨ i = 19 := by omega
            rcases hor with rfl | rfl | rfl | rfl | rfl | rfl | rfl | rfl | rfl | rfl | rfl | rfl | rfl | rfl | rfl | rfl | rfl | rfl | rfl | rfl
            all_goals (show _ = some (Value.int IntKind.u64 (if _ then _ else _)); go_simp)
          · have hfi := hfr i hi
            clear hfr
            go_simp
        case measure => simp [intOf]
      · have k0 : wr.cell? ⟨w1.heap.size, 0, none⟩ = some (.int .u64 (W4 (R 0) 0)) := hR.cel 0 (by decide)
        have k1 : wr.cell? ⟨w1.heap.size, 1, none⟩ = some (.int .u64 (W4 (R 0) 1)) := hR.cel 1 (by decide)
        have k2 : wr.cell? ⟨w1.heap.size, 2, none⟩ = some (.int .u64 (W4 (R 0) 2)) := hR.cel 2 (by decide)
        have k3 : wr.cell? ⟨w1.heap.size, 3, none⟩ = some (.int .u64 (W4 (R 0) 3)) := hR.cel 3 (by decide)
        have k4 : wr.cell? ⟨w1.heap.size, 4, none⟩ = some (.int .u64 (0)) := hR.cel 4 (by decide)
        have k5 : wr.cell? ⟨w1.heap.size, 5, none⟩ = some (.int .u64 (0)) := hR.cel 5 (by decide)
        have k6 : wr.cell? ⟨w1.heap.size, 6, none⟩ = some (.int .u64 (0)) := hR.cel 6 (by decide)
        have k7 : wr.cell? ⟨w1.heap.size, 7, none⟩ = some (.int .u64 (0)) := hR.cel 7 (by decide)
        have k8 : wr.cell? ⟨w1.heap.size, 8, none⟩ = some (.int .u64 (0)) := hR.cel 8 (by decide)
        have k9 : wr.cell? ⟨w1.heap.size, 9, none⟩ = some (.int .u64 (0)) := hR.cel 9 (by decide)
        have k10 : wr.cell? ⟨w1.heap.size, 10, none⟩ = some (.int .u64 (0)) := hR.cel 10 (by decide)
        have k11 : wr.cell? ⟨w1.heap.size, 11, none⟩ = some (.int .u64 (0)) := hR.cel 11 (by decide)
        have k12 : wr.cell? ⟨w1.heap.size, 12, none⟩ = some (.int .u64 (0)) := hR.cel 12 (by decide)
        have k13 : wr.cell? ⟨w1.heap.size, 13, none⟩ = some (.int .u64 (0)) := hR.cel 13 (by decide)
        have k14 : wr.cell? ⟨w1.heap.size, 14, none⟩ = some (.int .u64 (0)) := hR.cel 14 (by decide)
        have k15 : wr.cell? ⟨w1.heap.size, 15, none⟩ = some (.int .u64 (0)) := hR.cel 15 (by decide)
        have k16 : wr.cell? ⟨w1.heap.size, 16, none⟩ = some (.int .u64 (0)) := hR.cel 16 (by decide)
        have k17 : wr.cell? ⟨w1.heap.size, 17, none⟩ = some (.int .u64 (0)) := hR.cel 17 (by decide)
        have k18 : wr.cell? ⟨w1.heap.size, 18, none⟩ = some (.int .u64 (0)) := hR.cel 18 (by decide)
        have k19 : wr.cell? ⟨w1.heap.size, 19, none⟩ = some (.int .u64 (0)) := hR.cel 19 (by decide)
        have f4 : wr.frozen? ⟨w1.heap.size, 4, none⟩ = false := hR.fro 4 (by decide)
        have f5 : wr.frozen? ⟨w1.heap.size, 5, none⟩ = false := hR.fro 5 (by decide)
        have f6 : wr.frozen? ⟨w1.heap.size, 6, none⟩ = false := hR.fro 6 (by decide)
        have f7 : wr.frozen? ⟨w1.heap.size, 7, none⟩ = false := hR.fro 7 (by decide)
        have hFj := hF 1
        have hq1 : 0 ≤ (F 1).tdiv 8 := Int.tdiv_nonneg hFj.1 (by decide)
        have hq2 : (F 1).tdiv 8 ≤ 100 := by rw [Int.tdiv_eq_ediv_of_nonneg hFj.1]; omega
        have hm1 := smF_bd hF 1
        have c7j := fun W hW => c7 1 W (by decide) hW
        have HR : Hid (SdW w w1.heap.size R 1 wr) := hR
        have HS : Hid (smF F 2 = smF F 1 + (F 1).tdiv 8) := rfl
        generalize smF F 1 = sm at *
        clear hR
        go_wp2_with (first
          | (go_at_call 7; refine (c7j _ bgo).mono ?_; rintro r w3 ⟨rfl, hb3⟩; obtain ⟨hc3, hf3⟩ := bcell hb3; have hz3_0 : w1.heap.size < w3.heap.size := lt_below hb3 ltg; have hl3_0 := Nat.le_of_lt hz3_0; have hA3 := bnext (w0 := w) bgo hb3; have hs3 := hA3.size; clear hb3))
        go_round
        case rel =>
          have hfr := HR.out.fro
          refine ⟨2, by decide, rfl, by rw [HS.out], bgo, by simp; omega, hs1, fun i hi => ?_, fun i hi => ?_⟩
          · have hor : i = 0 ∨ i = 1 ∨ i = 2 ∨ i = 3 ∨ i = 4 ∨ i = 5 ∨ i = 6 ∨ i = 7 ∨ i = 8 ∨ i = 9 ∨ i = 10 ∨ i = 11 ∨ i = 12 ∨ i = 13 ∨ i = 14 ∨ i = 15 ∨ i = 16 ∨ i = 17 ∨ i = 18 ∨ i = 19 := by omega
            rcases hor with rfl | rfl | rfl | rfl | rfl | rfl | rfl | rfl | rfl | rfl | rfl | rfl | rfl | rfl | rfl | rfl | rfl | rfl | rfl | rfl
            all_goals (show _ = some (Value.int IntKind.u64 (if _ then _ else _)); go_simp)
          · have hfi := hfr i hi
            clear hfr
            go_simp
        case measure => simp [intOf]
      · have k0 : wr.cell? ⟨w1.heap.size, 0, none⟩ = some (.int .u64 (W4 (R 0) 0)) := hR.cel 0 (by decide)
        have k1 : wr.cell? ⟨w1.heap.size, 1, none⟩ = some (.int .u64 (W4 (R 0) 1)) := hR.cel 1 (by decide)
        have k2 : wr.cell? ⟨w1.heap.size, 2, none⟩ = some (.int .u64 (W4 (R 0) 2)) := hR.cel 2 (by decide)
        have k3 : wr.cell? ⟨w1.heap.size, 3, none⟩ = some (.int .u64 (W4 (R 0) 3)) := hR.cel 3 (by decide)
        have k4 : wr.cell? ⟨w1.heap.size, 4, none⟩ = some (.int .u64 (W4 (R 1) 0)) := hR.cel 4 (by decide)
        have k5 : wr.cell? ⟨w1.heap.size, 5, none⟩ = some (.int .u64 (W4 (R 1) 1)) := hR.cel 5 (by decide)
        have k6 : wr.cell? ⟨w1.heap.size, 6, none⟩ = some (.int .u64 (W4 (R 1) 2)) := hR.cel 6 (by decide)
        have k7 : wr.cell? ⟨w1.heap.size, 7, none⟩ = some (.int .u64 (W4 (R 1) 3)) := hR.cel 7 (by decide)
        have k8 : wr.cell? ⟨w1.heap.size, 8, none⟩ = some (.int .u64 (0)) := hR.cel 8 (by decide)
        have k9 : wr.cell? ⟨w1.heap.size, 9, none⟩ = some (.int .u64 (0)) := hR.cel 9 (by decide)
        have k10 : wr.cell? ⟨w1.heap.size, 10, none⟩ = some (.int .u64 (0)) := hR.cel 10 (by decide)
        have k11 : wr.cell? ⟨w1.heap.size, 11, none⟩ = some (.int .u64 (0)) := hR.cel 11 (by decide)
        have k12 : wr.cell? ⟨w1.heap.size, 12, none⟩ = some (.int .u64 (0)) := hR.cel 12 (by decide)
        have k13 : wr.cell? ⟨w1.heap.size, 13, none⟩ = some (.int .u64 (0)) := hR.cel 13 (by decide)
        have k14 : wr.cell? ⟨w1.heap.size, 14, none⟩ = some (.int .u64 (0)) := hR.cel 14 (by decide)
        have k15 : wr.cell? ⟨w1.heap.size, 15, none⟩ = some (.int .u64 (0)) := hR.cel 15 (by decide)
        have k16 : wr.cell? ⟨w1.heap.size, 16, none⟩ = some (.int .u64 (0)) := hR.cel 16 (by decide)
        have k17 : wr.cell? ⟨w1.heap.size, 17, none⟩ = some (.int .u64 (0)) := hR.cel 17 (by decide)
        have k18 : wr.cell? ⟨w1.heap.size, 18, none⟩ = some (.int .u64 (0)) := hR.cel 18 (by decide)
        have k19 : wr.cell? ⟨w1.heap.size, 19, none⟩ = some (.int .u64 (0)) := hR.cel 19 (by decide)
        have f8 : wr.frozen? ⟨w1.heap.size, 8, none⟩ = false := hR.fro 8 (by decide)
        have f9 : wr.frozen? ⟨w1.heap.size, 9, none⟩ = false := hR.fro 9 (by decide)
        have f10 : wr.frozen? ⟨w1.heap.size, 10, none⟩ = false := hR.fro 10 (by decide)
        have f11 : wr.frozen? ⟨w1.heap.size, 11, none⟩ = false := hR.fro 11 (by decide)
        have hFj := hF 2
        have hq1 : 0 ≤ (F 2).tdiv 8 := Int.tdiv_nonneg hFj.1 (by decide)
        have hq2 : (F 2).tdiv 8 ≤ 100 := by rw [Int.tdiv_eq_ediv_of_nonneg hFj.1]; omega
        have hm1 := smF_bd hF 2
        have c7j := fun W hW => c7 2 W (by decide) hW
        have HR : Hid (SdW w w1.heap.size R 2 wr) := hR
        have HS : Hid (smF F 3 = smF F 2 + (F 2).tdiv 8) := rfl
        generalize smF F 2 = sm at *
        clear hR
        go_wp2_with (first
          | (go_at_call 7; refine (c7j _ bgo).mono ?_; rintro r w3 ⟨rfl, hb3⟩; obtain ⟨hc3, hf3⟩ := bcell hb3; have hz3_0 : w1.heap.size < w3.heap.size := lt_below hb3 ltg; have hl3_0 := Nat.le_of_lt hz3_0; have hA3 := bnext (w0 := w) bgo hb3; have hs3 := hA3.size; clear hb3))
        go_round
        case rel =>
          have hfr := HR.out.fro
          refine ⟨3, by decide, rfl, by rw [HS.out], bgo, by simp; omega, hs1, fun i hi => ?_, fun i hi => ?_⟩
          · have hor : i = 0 ∨ i = 1 ∨ i = 2 ∨ i = 3 ∨ i = 4 ∨ i = 5 ∨ i = 6 ∨ i = 7 ∨ i = 8 ∨ i = 9 ∨ i = 10 ∨ i = 11 ∨ i = 12 ∨ i = 13 ∨ i = 14 ∨ i = 15 ∨ i = 16 ∨ i = 17 ∨ i = 18 ∨ i = 19 := by omega
            rcases hor with rfl | rfl | rfl | rfl | rfl | rfl | rfl | rfl | rfl | rfl | rfl | rfl | rfl | rfl | rfl | rfl | rfl | rfl | rfl | rfl
            all_goals (show _ = some (Value.int IntKind.u64 (if _ then _ else _)); go_simp)
          · have hfi := hfr i hi
            clear hfr
            go_simp
        case measure => simp [intOf]
      · have k0 : wr.cell? ⟨w1.heap.size, 0, none⟩ = some (.int .u64 (W4 (R 0) 0)) := hR.cel 0 (by decide)
        have k1 : wr.cell? ⟨w1.heap.size, 1, none⟩ = some (.int .u64 (W4 (R 0) 1)) := hR.cel 1 (by decide)
        have k2 : wr.cell? ⟨w1.heap.size, 2, none⟩ = some (.int .u64 (W4 (R 0) 2)) := hR.cel 2 (by decide)
        have k3 : wr.cell? ⟨w1.heap.size, 3, none⟩ = some (.int .u64 (W4 (R 0) 3)) := hR.cel 3 (by decide)
        have k4 : wr.cell? ⟨w1.heap.size, 4, none⟩ = some (.int .u64 (W4 (R 1) 0)) := hR.cel 4 (by decide)
        have k5 : wr.cell? ⟨w1.heap.size, 5, none⟩ = some (.int .u64 (W4 (R 1) 1)) := hR.cel 5 (by decide)
        have k6 : wr.cell? ⟨w1.heap.size, 6, none⟩ = some (.int .u64 (W4 (R 1) 2)) := hR.cel 6 (by decide)
        have k7 : wr.cell? ⟨w1.heap.size, 7, none⟩ = some (.int .u64 (W4 (R 1) 3)) := hR.cel 7 (by decide)
        have k8 : wr.cell? ⟨w1.heap.size, 8, none⟩ = some (.int .u64 (W4 (R 2) 0)) := hR.cel 8 (by decide)
        have k9 : wr.cell? ⟨w1.heap.size, 9, none⟩ = some (.int .u64 (W4 (R 2) 1)) := hR.cel 9 (by decide)
        have k10 : wr.cell? ⟨w1.heap.size, 10, none⟩ = some (.int .u64 (W4 (R 2) 2)) := hR.cel 10 (by decide)
        have k11 : wr.cell? ⟨w1.heap.size, 11, none⟩ = some (.int .u64 (W4 (R 2) 3)) := hR.cel 11 (by decide)
        have k12 : wr.cell? ⟨w1.heap.size, 12, none⟩ = some (.int .u64 (0)) := hR.cel 12 (by decide)
        have k13 : wr.cell? ⟨w1.heap.size, 13, none⟩ = some (.int .u64 (0)) := hR.cel 13 (by decide)
        have k14 : wr.cell? ⟨w1.heap.size, 14, none⟩ = some (.int .u64 (0)) := hR.cel 14 (by decide)
        have k15 : wr.cell? ⟨w1.heap.size, 15, none⟩ = some (.int .u64 (0)) := hR.cel 15 (by decide)
        have k16 : wr.cell? ⟨w1.heap.size, 16, none⟩ = some (.int .u64 (0)) := hR.cel 16 (by decide)
        have k17 : wr.cell? ⟨w1.heap.size, 17, none⟩ = some (.int .u64 (0)) := hR.cel 17 (by decide)
        have k18 : wr.cell? ⟨w1.heap.size, 18, none⟩ = some (.int .u64 (0)) := hR.cel 18 (by decide)
        have k19 : wr.cell? ⟨w1.heap.size, 19, none⟩ = some (.int .u64 (0)) := hR.cel 19 (by decide)
        have f12 : wr.frozen? ⟨w1.heap.size, 12, none⟩ = false := hR.fro 12 (by decide)
        have f13 : wr.frozen? ⟨w1.heap.size, 13, none⟩ = false := hR.fro 13 (by decide)
        have f14 : wr.frozen? ⟨w1.heap.size, 14, none⟩ = false := hR.fro 14 (by decide)
        have f15 : wr.frozen? ⟨w1.heap.size, 15, none⟩ = false := hR.fro 15 (by decide)
        have hFj := hF 3
        have hq1 : 0 ≤ (F 3).tdiv 8 := Int.tdiv_nonneg hFj.1 (by decide)
        have hq2 : (F 3).tdiv 8 ≤ 100 := by rw [Int.tdiv_eq_ediv_of_nonneg hFj.1]; omega
        have hm1 := smF_bd hF 3
        have c7j := fun W hW => c7 3 W (by decide) hW
        have HR : Hid (SdW w w1.heap.size R 3 wr) := hR
        have HS : Hid (smF F 4 = smF F 3 + (F 3).tdiv 8) := rfl
        generalize smF F 3 = sm at *
        clear hR
        go_wp2_with (first
          | (go_at_call 7; refine (c7j _ bgo).mono ?_; rintro r w3 ⟨rfl, hb3⟩; obtain ⟨hc3, hf3⟩ := bcell hb3; have hz3_0 : w1.heap.size < w3.heap.size := lt_below hb3 ltg; have hl3_0 := Nat.le_of_lt hz3_0; have hA3 := bnext (w0 := w) bgo hb3; have hs3 := hA3.size; clear hb3))
        go_round
        case rel =>
          have hfr := HR.out.fro
          refine ⟨4, by decide, rfl, by rw [HS.out], bgo, by simp; omega, hs1, fun i hi => ?_, fun i hi => ?_⟩
          · have hor : i = 0 ∨ i = 1 ∨ i = 2 ∨ i = 3 ∨ i = 4 ∨ i = 5 ∨ i = 6 ∨ i = 7 ∨ i = 8 ∨ i = 9 ∨ i = 10 ∨ i = 11 ∨ i = 12 ∨ i = 13 ∨ i = 14 ∨ i = 15 ∨ i = 16 ∨ i = 17 ∨ i = 18 ∨ i = 19 := by omega
            rcases hor with rfl | rfl | rfl | rfl | rfl | rfl | rfl | rfl | rfl | rfl | rfl | rfl | rfl | rfl | rfl | rfl | rfl | rfl | rfl | rfl
            all_goals (show _ = some (Value.int IntKind.u64 (if _ then _ else _)); go_simp)
          · have hfi := hfr i hi
            clear hfr
            go_simp
        case measure => simp [intOf]
      · have k0 : wr.cell? ⟨w1.heap.size, 0, none⟩ = some (.int .u64 (W4 (R 0) 0)) := hR.cel 0 (by decide)
        have k1 : wr.cell? ⟨w1.heap.size, 1, none⟩ = some (.int .u64 (W4 (R 0) 1)) := hR.cel 1 (by decide)
        have k2 : wr.cell? ⟨w1.heap.size, 2, none⟩ = some (.int .u64 (W4 (R 0) 2)) := hR.cel 2 (by decide)
        have k3 : wr.cell? ⟨w1.heap.size, 3, none⟩ = some (.int .u64 (W4 (R 0) 3)) := hR.cel 3 (by decide)
        have k4 : wr.cell? ⟨w1.heap.size, 4, none⟩ = some (.int .u64 (W4 (R 1) 0)) := hR.cel 4 (by decide)
        have k5 : wr.cell? ⟨w1.heap.size, 5, none⟩ = some (.int .u64 (W4 (R 1) 1)) := hR.cel 5 (by decide)
        have k6 : wr.cell? ⟨w1.heap.size, 6, none⟩ = some (.int .u64 (W4 (R 1) 2)) := hR.cel 6 (by decide)
        have k7 : wr.cell? ⟨w1.heap.size, 7, none⟩ = some (.int .u64 (W4 (R 1) 3)) := hR.cel 7 (by decide)
        have k8 : wr.cell? ⟨w1.heap.size, 8, none⟩ = some (.int .u64 (W4 (R 2) 0)) := hR.cel 8 (by decide)
        have k9 : wr.cell? ⟨w1.heap.size, 9, none⟩ = some (.int .u64 (W4 (R 2) 1)) := hR.cel 9 (by decide)
        have k10 : wr.cell? ⟨w1.heap.size, 10, none⟩ = some (.int .u64 (W4 (R 2) 2)) := hR.cel 10 (by decide)
        have k11 : wr.cell? ⟨w1.heap.size, 11, none⟩ = some (.int .u64 (W4 (R 2) 3)) := hR.cel 11 (by decide)
        have k12 : wr.cell? ⟨w1.heap.size, 12, none⟩ = some (.int .u64 (W4 (R 3) 0)) := hR.cel 12 (by decide)
        have k13 : wr.cell? ⟨w1.heap.size, 13, none⟩ = some (.int .u64 (W4 (R 3) 1)) := hR.cel 13 (by decide)
        have k14 : wr.cell? ⟨w1.heap.size, 14, none⟩ = some (.int .u64 (W4 (R 3) 2)) := hR.cel 14 (by decide)
        have k15 : wr.cell? ⟨w1.heap.size, 15, none⟩ = some (.int .u64 (W4 (R 3) 3)) := hR.cel 15 (by decide)
        have k16 : wr.cell? ⟨w1.heap.size, 16, none⟩ = some (.int .u64 (0)) := hR.cel 16 (by decide)
        have k17 : wr.cell? ⟨w1.heap.size, 17, none⟩ = some (.int .u64 (0)) := hR.cel 17 (by decide)
        have k18 : wr.cell? ⟨w1.heap.size, 18, none⟩ = some (.int .u64 (0)) := hR.cel 18 (by decide)
        have k19 : wr.cell? ⟨w1.heap.size, 19, none⟩ = some (.int .u64 (0)) := hR.cel 19 (by decide)
        have f16 : wr.frozen? ⟨w1.heap.size, 16, none⟩ = false := hR.fro 16 (by decide)
        have f17 : wr.frozen? ⟨w1.heap.size, 17, none⟩ = false := hR.fro 17 (by decide)
        have f18 : wr.frozen? ⟨w1.heap.size, 18, none⟩ = false := hR.fro 18 (by decide)
        have f19 : wr.frozen? ⟨w1.heap.size, 19, none⟩ = false := hR.fro 19 (by decide)
        have hFj := hF 4
        have hq1 : 0 ≤ (F 4).tdiv 8 := Int.tdiv_nonneg hFj.1 (by decide)
        have hq2 : (F 4).tdiv 8 ≤ 100 := by rw [Int.tdiv_eq_ediv_of_nonneg hFj.1]; omega
        have hm1 := smF_bd hF 4
        have c7j := fun W hW => c7 4 W (by decide) hW
        have HR : Hid (SdW w w1.heap.size R 4 wr) := hR
        have HS : Hid (smF F 5 = smF F 4 + (F 4).tdiv 8) := rfl
        generalize smF F 4 = sm at *
        clear hR
        go_wp2_with (first
          | (go_at_call 7; refine (c7j _ bgo).mono ?_; rintro r w3 ⟨rfl, hb3⟩; obtain ⟨hc3, hf3⟩ := bcell hb3; have hz3_0 : w1.heap.size < w3.heap.size := lt_below hb3 ltg; have hl3_0 := Nat.le_of_lt hz3_0; have hA3 := bnext (w0 := w) bgo hb3; have hs3 := hA3.size; clear hb3))
        go_round
        case rel =>
          have hfr := HR.out.fro
          refine ⟨5, by decide, rfl, by rw [HS.out], bgo, by simp; omega, hs1, fun i hi => ?_, fun i hi => ?_⟩
          · have hor : i = 0 ∨ i = 1 ∨ i = 2 ∨ i = 3 ∨ i = 4 ∨ i = 5 ∨ i = 6 ∨ i = 7 ∨ i = 8 ∨ i = 9 ∨ i = 10 ∨ i = 11 ∨ i = 12 ∨ i = 13 ∨ i = 14 ∨ i = 15 ∨ i = 16 ∨ i = 17 ∨ i = 18 ∨ i = 19 := by omega
            rcases hor with rfl | rfl | rfl | rfl | rfl | rfl | rfl | rfl | rfl | rfl | rfl | rfl | rfl | rfl | rfl | rfl | rfl | rfl | rfl | rfl
            all_goals (show _ = some (Value.int IntKind.u64 (if _ then _ else _)); go_simp)
          · have hfi := hfr i hi
            clear hfr
            go_simp
        case measure => simp [intOf]
set_option maxHeartbeats 8000000 in
theorem sd_At (hsb : s = true) (X : Nat) (hall : ∀ i, i < 5 → R i = X) (bX : X < 2 ^ 256) (hs5 : smF F 5 = 0) :
    Calls Tryd.prog 3 #[.int .i64 n, .bool s, .slice a k c, .slice a' k' c', .int .i64 x] w fun r w' => r = .returned (.bool true) ∧ Below w.heap.size w w' := by
  subst hsb
  have HALL : Hid (∀ i, i < 5 → R i = X) := hall
  clear hall
  have HS5 : Hid (smF F 5 = 0) := hs5
  clear hs5
  have c4 := awake6
  have hsm := cell_set_map
  unfold A4 at c7
  go_enter Tryd.func3, Tryd.ntmps3
  go_wp2_with (first
    | (go_at_call 4; refine (c4 _ (hT.go bgo)).mono ?_; rintro r w1 ⟨rfl, hb1⟩; obtain ⟨hc1, hf1⟩ := bcell hb1; have hA1 := bnext (w0 := w) bgo hb1; have hs1 := hA1.size; clear hb1)
    | (go_at_call 5; refine (c5 _).mono ?_; rintro r w2 ⟨rfl, rfl⟩)
    | (go_at_call 6; refine (c6 _ bgo).mono ?_; rintro r w2 ⟨rfl, rfl⟩))
  go_loopw [12, 41] (fun t12 t41 wr => ∃ j : Nat, j ≤ 5 ∧ t41 = .int .i64 (j : Int) ∧ t12 = .int .i64 (smF F j) ∧ SdW w w1.heap.size R j wr) (fun _ t41 _ => 5 - (intOf t41).toNat)
  case atStart =>
    have hz : ∀ i q, rwV R 0 i q = 0 := fun _ _ => if_neg (by omega)
    refine ⟨0, by decide, rfl, rfl, bgo, by simp, hs1, fun i hi => ?_, fun i hi => ?_⟩
    · rw [hz]
      have hor : i = 0 ∨ i = 1 ∨ i = 2 ∨ i = 3 ∨ i = 4 ∨ i = 5 ∨ i = 6 ∨ i = 7 ∨ i = 8 ∨ i = 9 ∨ i = 10 ∨ i = 11 ∨ i = 12 ∨ i = 13 ∨ i = 14 ∨ i = 15 ∨ i = 16 ∨ i = 17 ∨ i = 18 ∨ i = 19 := by omega
      rcases hor with rfl | rfl | rfl | rfl | rfl | rfl | rfl | rfl | rfl | rfl | rfl | rfl | rfl | rfl | rfl | rfl | rfl | rfl | rfl | rfl <;> go_simp
    · go_simp
  case round =>
    obtain ⟨j, hj, rfl, rfl, hR⟩ := hrel
    have hA0 := hR.bel
    have hl0 := hR.lt
    have hs0 := hA0.size
    by_cases h5 : j = 5
    · subst h5
      have kk : ∀ i, i < 20 → wr.cell? ⟨w1.heap.size, i, none⟩ = some (.int .u64 (W4 (R (i / 4)) (i % 4))) := fun i hi => by
        have := hR.cel i hi
        rw [show rwV R 5 (i / 4) (i % 4) = W4 (R (i / 4)) (i % 4) from if_pos (by omega)] at this
        exact this
      clear hR c7 c6 c5 c4
      rw [HS5.out]
      have k0 : wr.cell? ⟨w1.heap.size, 0, none⟩ = some (.int .u64 (W4 (R 0) 0)) := kk 0 (by decide)
      have k1 : wr.cell? ⟨w1.heap.size, 1, none⟩ = some (.int .u64 (W4 (R 0) 1)) := kk 1 (by decide)
      have k2 : wr.cell? ⟨w1.heap.size, 2, none⟩ = some (.int .u64 (W4 (R 0) 2)) := kk 2 (by decide)
      have k3 : wr.cell? ⟨w1.heap.size, 3, none⟩ = some (.int .u64 (W4 (R 0) 3)) := kk 3 (by decide)
      have k4 : wr.cell? ⟨w1.heap.size, 4, none⟩ = some (.int .u64 (W4 (R 1) 0)) := kk 4 (by decide)
      have k5 : wr.cell? ⟨w1.heap.size, 5, none⟩ = some (.int .u64 (W4 (R 1) 1)) := kk 5 (by decide)
      have k6 : wr.cell? ⟨w1.heap.size, 6, none⟩ = some (.int .u64 (W4 (R 1) 2)) := kk 6 (by decide)
      have k7 : wr.cell? ⟨w1.heap.size, 7, none⟩ = some (.int .u64 (W4 (R 1) 3)) := kk 7 (by decide)
      have k8 : wr.cell? ⟨w1.heap.size, 8, none⟩ = some (.int .u64 (W4 (R 2) 0)) := kk 8 (by decide)
      have k9 : wr.cell? ⟨w1.heap.size, 9, none⟩ = some (.int .u64 (W4 (R 2) 1)) := kk 9 (by decide)
      have k10 : wr.cell? ⟨w1.heap.size, 10, none⟩ = some (.int .u64 (W4 (R 2) 2)) := kk 10 (by decide)
      have k11 : wr.cell? ⟨w1.heap.size, 11, none⟩ = some (.int .u64 (W4 (R 2) 3)) := kk 11 (by decide)
      have k12 : wr.cell? ⟨w1.heap.size, 12, none⟩ = some (.int .u64 (W4 (R 3) 0)) := kk 12 (by decide)
      have k13 : wr.cell? ⟨w1.heap.size, 13, none⟩ = some (.int .u64 (W4 (R 3) 1)) := kk 13 (by decide)
      have k14 : wr.cell? ⟨w1.heap.size, 14, none⟩ = some (.int .u64 (W4 (R 3) 2)) := kk 14 (by decide)
      have k15 : wr.cell? ⟨w1.heap.size, 15, none⟩ = some (.int .u64 (W4 (R 3) 3)) := kk 15 (by decide)
      have k16 : wr.cell? ⟨w1.heap.size, 16, none⟩ = some (.int .u64 (W4 (R 4) 0)) := kk 16 (by decide)
      have k17 : wr.cell? ⟨w1.heap.size, 17, none⟩ = some (.int .u64 (W4 (R 4) 1)) := kk 17 (by decide)
      have k18 : wr.cell? ⟨w1.heap.size, 18, none⟩ = some (.int .u64 (W4 (R 4) 2)) := kk 18 (by decide)
      have k19 : wr.cell? ⟨w1.heap.size, 19, none⟩ = some (.int .u64 (W4 (R 4) 3)) := kk 19 (by decide)
      clear kk
      go_wp2
      refine reg18 (h11 := w1.heap.size) (X3 := R 3) (X4 := R 4) rfl rfl hl0 k12 k13 k14 k15 k16 k17 k18 k19 ?_
      intro a' w4 g h e17 e18 hne hg hh hBg hBh hsz' hdf hFr hb4
      have ha := act_of slots18 7 rfl hsz' hdf hFr
      rw [ha]
      simp only [slots18, List.foldl_cons, List.foldl_nil, Act.put, List.setIfInBounds_toArray, List.set_cons_succ, List.set_cons_zero, e17, e18]
      generalize slot a' 71 = s71
      generalize slot a' 72 = s72
      generalize slot a' 73 = s73
      generalize slot a' 74 = s74
      generalize slot a' 100 = s100
      clear ha e17 e18 hsz' hdf hFr
      replace k0 := (hb4.cell (p := ⟨w1.heap.size, 0, none⟩) hl0).trans k0
      replace k1 := (hb4.cell (p := ⟨w1.heap.size, 1, none⟩) hl0).trans k1
      replace k2 := (hb4.cell (p := ⟨w1.heap.size, 2, none⟩) hl0).trans k2
      replace k3 := (hb4.cell (p := ⟨w1.heap.size, 3, none⟩) hl0).trans k3
      replace k4 := (hb4.cell (p := ⟨w1.heap.size, 4, none⟩) hl0).trans k4
      replace k5 := (hb4.cell (p := ⟨w1.heap.size, 5, none⟩) hl0).trans k5
      replace k6 := (hb4.cell (p := ⟨w1.heap.size, 6, none⟩) hl0).trans k6
      replace k7 := (hb4.cell (p := ⟨w1.heap.size, 7, none⟩) hl0).trans k7
      replace k8 := (hb4.cell (p := ⟨w1.heap.size, 8, none⟩) hl0).trans k8
      replace k9 := (hb4.cell (p := ⟨w1.heap.size, 9, none⟩) hl0).trans k9
      replace k10 := (hb4.cell (p := ⟨w1.heap.size, 10, none⟩) hl0).trans k10
      replace k11 := (hb4.cell (p := ⟨w1.heap.size, 11, none⟩) hl0).trans k11
      clear k12 k13 k14 k15 k16 k17 k18 k19
      have hl4 : w1.heap.size < w4.heap.size := Nat.lt_of_lt_of_le hl0 hb4.size
      have hA4 := bnext (w0 := w) hA0 hb4
      have hs4 := hA4.size
      have hg1 : w1.heap.size ≠ g := by omega
      have hg2 : w1.heap.size ≠ h := by omega
      have hgw : w.heap.size ≤ g := by omega
      have hhw : w.heap.size ≤ h := by omega
      clear hb4
      have cg := hBg
      have ch := hBh
      obtain ⟨g0, g1, g2, g3, g4, g5, g6, g7, g8⟩ := cg
      obtain ⟨i0, i1, i2, i3, i4, i5, i6, i7, i8⟩ := ch
      go_wp2
      clear g0 g1 g2 g3 g4 g5 g6 g7 g8 i0 i1 i2 i3 i4 i5 i6 i7 i8
      have hBl : B4 g (R 3) (put4B (put4B w4 g (R 3)) h (R 4)) := hBg.put.other hne
      have hBu : B4 h (R 4) (put4B (put4B w4 g (R 3)) h (R 4)) := (hBh.other (fun e => hne e.symm)).put
      have hA5 : Below w.heap.size w (put4B (put4B w4 g (R 3)) h (R 4)) := put4B_below (put4B_below hA4 hgw) hhw
      replace k0 : (put4B (put4B w4 g (R 3)) h (R 4)).cell? ⟨w1.heap.size, 0, none⟩ = some (.int .u64 (W4 (R 0) 0)) := (put4B_cell hg2).trans ((put4B_cell hg1).trans k0)
      replace k1 : (put4B (put4B w4 g (R 3)) h (R 4)).cell? ⟨w1.heap.size, 1, none⟩ = some (.int .u64 (W4 (R 0) 1)) := (put4B_cell hg2).trans ((put4B_cell hg1).trans k1)
      replace k2 : (put4B (put4B w4 g (R 3)) h (R 4)).cell? ⟨w1.heap.size, 2, none⟩ = some (.int .u64 (W4 (R 0) 2)) := (put4B_cell hg2).trans ((put4B_cell hg1).trans k2)
      replace k3 : (put4B (put4B w4 g (R 3)) h (R 4)).cell? ⟨w1.heap.size, 3, none⟩ = some (.int .u64 (W4 (R 0) 3)) := (put4B_cell hg2).trans ((put4B_cell hg1).trans k3)
      replace k4 : (put4B (put4B w4 g (R 3)) h (R 4)).cell? ⟨w1.heap.size, 4, none⟩ = some (.int .u64 (W4 (R 1) 0)) := (put4B_cell hg2).trans ((put4B_cell hg1).trans k4)
      replace k5 : (put4B (put4B w4 g (R 3)) h (R 4)).cell? ⟨w1.heap.size, 5, none⟩ = some (.int .u64 (W4 (R 1) 1)) := (put4B_cell hg2).trans ((put4B_cell hg1).trans k5)
      replace k6 : (put4B (put4B w4 g (R 3)) h (R 4)).cell? ⟨w1.heap.size, 6, none⟩ = some (.int .u64 (W4 (R 1) 2)) := (put4B_cell hg2).trans ((put4B_cell hg1).trans k6)
      replace k7 : (put4B (put4B w4 g (R 3)) h (R 4)).cell? ⟨w1.heap.size, 7, none⟩ = some (.int .u64 (W4 (R 1) 3)) := (put4B_cell hg2).trans ((put4B_cell hg1).trans k7)
      replace k8 : (put4B (put4B w4 g (R 3)) h (R 4)).cell? ⟨w1.heap.size, 8, none⟩ = some (.int .u64 (W4 (R 2) 0)) := (put4B_cell hg2).trans ((put4B_cell hg1).trans k8)
      replace k9 : (put4B (put4B w4 g (R 3)) h (R 4)).cell? ⟨w1.heap.size, 9, none⟩ = some (.int .u64 (W4 (R 2) 1)) := (put4B_cell hg2).trans ((put4B_cell hg1).trans k9)
      replace k10 : (put4B (put4B w4 g (R 3)) h (R 4)).cell? ⟨w1.heap.size, 10, none⟩ = some (.int .u64 (W4 (R 2) 2)) := (put4B_cell hg2).trans ((put4B_cell hg1).trans k10)
      replace k11 : (put4B (put4B w4 g (R 3)) h (R 4)).cell? ⟨w1.heap.size, 11, none⟩ = some (.int .u64 (W4 (R 2) 3)) := (put4B_cell hg2).trans ((put4B_cell hg1).trans k11)
      have hl5 : w1.heap.size < (put4B (put4B w4 g (R 3)) h (R 4)).heap.size := by rw [put4B_size, put4B_size]; exact hl4
      change Code.wp _ _ _ _ (put4B (put4B w4 g (R 3)) h (R 4))
      generalize (put4B (put4B w4 g (R 3)) h (R 4)) = w5 at *
      clear hBg hBh
      have hall := HALL.out
      have bl : R 3 < 2 ^ 256 := by rw [hall 3 (by decide)]; exact bX
      have bu : R 4 < 2 ^ 256 := by rw [hall 4 (by decide)]; exact bX
      have hle : R 3 ≤ R 4 := by rw [hall 3 (by decide), hall 4 (by decide)]; exact Nat.le_refl _
      clear hall
      refine reg21 (g := g) (h := h) (K := 8) (X := R 4 - R 3) rfl rfl rfl (fun W hW => rless_nt (by decide) (by decide) (NVB bu (hBu.next hW)) (NVB bl (hBl.next hW)) hle) ?_
      intro a'' w6 u e19 hu hsz' hdf hFr hb6
      have ha := act_of slotsA21 4 rfl hsz' hdf hFr
      rw [ha]
      simp only [slotsA21, List.foldl_cons, List.foldl_nil, Act.put, List.setIfInBounds_toArray, List.set_cons_succ, List.set_cons_zero, e19]
      generalize slot a'' 78 = r78
      generalize slot a'' 79 = r79
      generalize slot a'' 80 = r80
      clear ha e19 hsz' hdf hFr
      replace k0 := (hb6.cell (p := ⟨w1.heap.size, 0, none⟩) hl5).trans k0
      replace k1 := (hb6.cell (p := ⟨w1.heap.size, 1, none⟩) hl5).trans k1
      replace k2 := (hb6.cell (p := ⟨w1.heap.size, 2, none⟩) hl5).trans k2
      replace k3 := (hb6.cell (p := ⟨w1.heap.size, 3, none⟩) hl5).trans k3
      replace k4 := (hb6.cell (p := ⟨w1.heap.size, 4, none⟩) hl5).trans k4
      replace k5 := (hb6.cell (p := ⟨w1.heap.size, 5, none⟩) hl5).trans k5
      replace k6 := (hb6.cell (p := ⟨w1.heap.size, 6, none⟩) hl5).trans k6
      replace k7 := (hb6.cell (p := ⟨w1.heap.size, 7, none⟩) hl5).trans k7
      replace k8 := (hb6.cell (p := ⟨w1.heap.size, 8, none⟩) hl5).trans k8
      replace k9 := (hb6.cell (p := ⟨w1.heap.size, 9, none⟩) hl5).trans k9
      replace k10 := (hb6.cell (p := ⟨w1.heap.size, 10, none⟩) hl5).trans k10
      replace k11 := (hb6.cell (p := ⟨w1.heap.size, 11, none⟩) hl5).trans k11
      replace hBl := hBl.next hb6
      replace hBu := hBu.next hb6
      have hl6 : w1.heap.size < w6.heap.size := Nat.lt_of_lt_of_le hl5 hb6.size
      have hA6 := bnext (w0 := w) hA5 hb6
      clear hb6 hle
      have hself := A4_selfB bX
      have hall := HALL.out
      unfold A4 at hself
      rw [hall 0 (by decide)] at k0 k1 k2 k3
      rw [hall 1 (by decide)] at k4 k5 k6 k7
      rw [hall 2 (by decide)] at k8 k9 k10 k11
      rw [hall 3 (by decide)] at hBl
      rw [hall 4 (by decide)] at hBu
      obtain ⟨g0, g1, g2, g3, g4, g5, g6, g7, g8⟩ := hBl
      obtain ⟨i0, i1, i2, i3, i4, i5, i6, i7, i8⟩ := hBu
      clear hall
      go_wp2
      go_ret
      exact ⟨by simp, hA6⟩
    · have hor : j = 0 ∨ j = 1 ∨ j = 2 ∨ j = 3 ∨ j = 4 := by omega
      rcases hor with rfl | rfl | rfl | rfl | rfl
      · have k0 : wr.cell? ⟨w1.heap.size, 0, none⟩ = some (.int .u64 (0)) := hR.cel 0 (by decide)
        have k1 : wr.cell? ⟨w1.heap.size, 1, none⟩ = some (.int .u64 (0)) := hR.cel 1 (by decide)
        have k2 : wr.cell? ⟨w1.heap.size, 2, none⟩ = some (.int .u64 (0)) := hR.cel 2 (by decide)
        have k3 : wr.cell? ⟨w1.heap.size, 3, none⟩ = some (.int .u64 (0)) := hR.cel 3 (by decide)
        have k4 : wr.cell? ⟨w1.heap.size, 4, none⟩ = some (.int .u64 (0)) := hR.cel 4 (by decide)
        have k5 : wr.cell? ⟨w1.heap.size, 5, none⟩ = some (.int .u64 (0)) := hR.cel 5 (by decide)
        have k6 : wr.cell? ⟨w1.heap.size, 6, none⟩ = some (.int .u64 (0)) := hR.cel 6 (by decide)
        have k7 : wr.cell? ⟨w1.heap.size, 7, none⟩ = some (.int .u64 (0)) := hR.cel 7 (by decide)
        have k8 : wr.cell? ⟨w1.heap.size, 8, none⟩ = some (.int .u64 (0)) := hR.cel 8 (by decide)
        have k9 : wr.cell? ⟨w1.heap.size, 9, none⟩ = some (.int .u64 (0)) := hR.cel 9 (by decide)
        have k10 : wr.cell? ⟨w1.heap.size, 10, none⟩ = some (.int .u64 (0)) := hR.cel 10 (by decide)
        have k11 : wr.cell? ⟨w1.heap.size, 11, none⟩ = some (.int .u64 (0)) := hR.cel 11 (by decide)
        have k12 : wr.cell? ⟨w1.heap.size, 12, none⟩ = some (.int .u64 (0)) := hR.cel 12 (by decide)
        have k13 : wr.cell? ⟨w1.heap.size, 13, none⟩ = some (.int .u64 (0)) := hR.cel 13 (by decide)
        have k14 : wr.cell? ⟨w1.heap.size, 14, none⟩ = some (.int .u64 (0)) := hR.cel 14 (by decide)
        have k15 : wr.cell? ⟨w1.heap.size, 15, none⟩ = some (.int .u64 (0)) := hR.cel 15 (by decide)
        have k16 : wr.cell? ⟨w1.heap.size, 16, none⟩ = some (.int .u64 (0)) := hR.cel 16 (by decide)
        have k17 : wr.cell? ⟨w1.heap.size, 17, none⟩ = some (.int .u64 (0)) := hR.cel 17 (by decide)
        have k18 : wr.cell? ⟨w1.heap.size, 18, none⟩ = some (.int .u64 (0)) := hR.cel 18 (by decide)
        have k19 : wr.cell? ⟨w1.heap.size, 19, none⟩ = some (.int .u64 (0)) := hR.cel 19 (by decide)
        have f0 : wr.frozen? ⟨w1.heap.size, 0, none⟩ = false := hR.fro 0 (by decide)
        have f1 : wr.frozen? ⟨w1.heap.size, 1, none⟩ = false := hR.fro 1 (by decide)
        have f2 : wr.frozen? ⟨w1.heap.size, 2, none⟩ = false := hR.fro 2 (by decide)
        have f3 : wr.frozen? ⟨w1.heap.size, 3, none⟩ = false := hR.fro 3 (by decide)
        have hFj := hF 0
        have hq1 : 0 ≤ (F 0).tdiv 8 := Int.tdiv_nonneg hFj.1 (by decide)
        have hq2 : (F 0).tdiv 8 ≤ 100 := by rw [Int.tdiv_eq_ediv_of_nonneg hFj.1]; omega
        have hm1 := smF_bd hF 0
        have c7j := fun W hW => c7 0 W (by decide) hW
        have HR : Hid (SdW w w1.heap.size R 0 wr) := hR
        have HS : Hid (smF F 1 = smF F 0 + (F 0).tdiv 8) := rfl
        generalize smF F 0 = sm at *
        clear hR
        go_wp2_with (first
          | (go_at_call 7; refine (c7j _ bgo).mono ?_; rintro r w3 ⟨rfl, hb3⟩; obtain ⟨hc3, hf3⟩ := bcell hb3; have hz3_0 : w1.heap.size < w3.heap.size := lt_below hb3 ltg; have hl3_0 := Nat.le_of_lt hz3_0; have hA3 := bnext (w0 := w) bgo hb3; have hs3 := hA3.size; clear hb3))
        go_round
        case rel =>
          have hfr := HR.out.fro
          refine ⟨1, by decide, rfl, by rw [HS.out], bgo, by simp; omega, hs1, fun i hi => ?_, fun i hi => ?_⟩
          · have hor : i = 0 ∨ i = 1 ∨ i = 2 ∨ i = 3 ∨ i = 4 ∨ i = 5 ∨ i = 6 ∨ i = 7 ∨ i = 8 ∨ i = 9 ∨ i = 10 ∨ i = 11 ∨ i = 12 ∨ i = 13 ∨ i = 14 ∨ i = 15 ∨ i = 16 ∨ i = 17 ∨ i = 18 ∨ i = 19 := by omega
            rcases hor with rfl | rfl | rfl | rfl | rfl | rfl | rfl | rfl | rfl | rfl | rfl | rfl | rfl | rfl | rfl | rfl | rfl | rfl | rfl | rfl
            all_goals (show _ = some (Value.int IntKind.u64 (if _ then _ else _)); go_simp)
          · have hfi := hfr i hi
            clear hfr
            go_simp
        case measure => simp [intOf]
      · have k0 : wr.cell? ⟨w1.heap.size, 0, none⟩ = some (.int .u64 (W4 (R 0) 0)) := hR.cel 0 (by decide)
        have k1 : wr.cell? ⟨w1.heap.size, 1, none⟩ = some (.int .u64 (W4 (R 0) 1)) := hR.cel 1 (by decide)
        have k2 : wr.cell? ⟨w1.heap.size, 2, none⟩ = some (.int .u64 (W4 (R 0) 2)) := hR.cel 2 (by decide)
        have k3 : wr.cell? ⟨w1.heap.size, 3, none⟩ = some (.int .u64 (W4 (R 0) 3)) := hR.cel 3 (by decide)
        have k4 : wr.cell? ⟨w1.heap.size, 4, none⟩ = some (.int .u64 (0)) := hR.cel 4 (by decide)
        have k5 : wr.cell? ⟨w1.heap.size, 5, none⟩ = some (.int .u64 (0)) := hR.cel 5 (by decide)
        have k6 : wr.cell? ⟨w1.heap.size, 6, none⟩ = some (.int .u64 (0)) := hR.cel 6 (by decide)
        have k7 : wr.cell? ⟨w1.heap.size, 7, none⟩ = some (.int .u64 (0)) := hR.cel 7 (by decide)
        have k8 : wr.cell? ⟨w1.heap.size, 8, none⟩ = some (.int .u64 (0)) := hR.cel 8 (by decide)
        have k9 : wr.cell? ⟨w1.heap.size, 9, none⟩ = some (.int .u64 (0)) := hR.cel 9 (by decide)
        have k10 : wr.cell? ⟨w1.heap.size, 10, none⟩ = some (.int .u64 (0)) := hR.cel 10 (by decide)
        have k11 : wr.cell? ⟨w1.heap.size, 11, none⟩ = some (.int .u64 (0)) := hR.cel 11 (by decide)
        have k12 : wr.cell? ⟨w1.heap.size, 12, none⟩ = some (.int .u64 (0)) := hR.cel 12 (by decide)
        have k13 : wr.cell? ⟨w1.heap.size, 13, none⟩ = some (.int .u64 (0)) := hR.cel 13 (by decide)
        have k14 : wr.cell? ⟨w1.heap.size, 14, none⟩ = some (.int .u64 (0)) := hR.cel 14 (by decide)
        have k15 : wr.cell? ⟨w1.heap.size, 15, none⟩ = some (.int .u64 (0)) := hR.cel 15 (by decide)
        have k16 : wr.cell? ⟨w1.heap.size, 16, none⟩ = some (.int .u64 (0)) := hR.cel 16 (by decide)
        have k17 : wr.cell? ⟨w1.heap.size, 17, none⟩ = some (.int .u64 (0)) := hR.cel 17 (by decide)
        have k18 : wr.cell? ⟨w1.heap.size, 18, none⟩ = some (.int .u64 (0)) := hR.cel 18 (by decide)
        have k19 : wr.cell? ⟨w1.heap.size, 19, none⟩ = some (.int .u64 (0)) := hR.cel 19 (by decide)
        have f4 : wr.frozen? ⟨w1.heap.size, 4, none⟩ = false := hR.fro 4 (by decide)
        have f5 : wr.frozen? ⟨w1.heap.size, 5, none⟩ = false := hR.fro 5 (by decide)
        have f6 : wr.frozen? ⟨w1.heap.size, 6, none⟩ = false := hR.fro 6 (by decide)
        have f7 : wr.frozen? ⟨w1.heap.size, 7, none⟩ = false := hR.fro 7 (by decide)
        have hFj := hF 1
        have hq1 : 0 ≤ (F 1).tdiv 8 := Int.tdiv_nonneg hFj.1 (by decide)
        have hq2 : (F 1).tdiv 8 ≤ 100 := by rw [Int.tdiv_eq_ediv_of_nonneg hFj.1]; omega
        have hm1 := smF_bd hF 1
        have c7j := fun W hW => c7 1 W (by decide) hW
        have HR : Hid (SdW w w1.heap.size R 1 wr) := hR
        have HS : Hid (smF F 2 = smF F 1 + (F 1).tdiv 8) := rfl
        generalize smF F 1 = sm at *
        clear hR
        go_wp2_with (first
          | (go_at_call 7; refine (c7j _ bgo).mono ?_; rintro r w3 ⟨rfl, hb3⟩; obtain ⟨hc3, hf3⟩ := bcell hb3; have hz3_0 : w1.heap.size < w3.heap.size := lt_below hb3 ltg; have hl3_0 := Nat.le_of_lt hz3_0; have hA3 := bnext (w0 := w) bgo hb3; have hs3 := hA3.size; clear hb3))
        go_round
        case rel =>
          have hfr := HR.out.fro
          refine ⟨2, by decide, rfl, by rw [HS.out], bgo, by simp; omega, hs1, fun i hi => ?_, fun i hi => ?_⟩
          · have hor : i = 0 ∨ i = 1 ∨ i = 2 ∨ i = 3 ∨ i = 4 ∨ i = 5 ∨ i = 6 ∨ i = 7 ∨ i = 8 ∨ i = 9 ∨ i = 10 ∨ i = 11 ∨ i = 12 ∨ i = 13 ∨ i = 14 ∨ i = 15 ∨ i = 16 ∨ i = 17 ∨ i = 18 ∨ i = 19 := by omega
            rcases hor with rfl | rfl | rfl | rfl | rfl | rfl | rfl | rfl | rfl | rfl | rfl | rfl | rfl | rfl | rfl | rfl | rfl | rfl | rfl | rfl
            all_goals (show _ = some (Value.int IntKind.u64 (if _ then _ else _)); go_simp)
          · have hfi := hfr i hi
            clear hfr
            go_simp
        case measure => simp [intOf]
      · have k0 : wr.cell? ⟨w1.heap.size, 0, none⟩ = some (.int .u64 (W4 (R 0) 0)) := hR.cel 0 (by decide)
        have k1 : wr.cell? ⟨w1.heap.size, 1, none⟩ = some (.int .u64 (W4 (R 0) 1)) := hR.cel 1 (by decide)
        have k2 : wr.cell? ⟨w1.heap.size, 2, none⟩ = some (.int .u64 (W4 (R 0) 2)) := hR.cel 2 (by decide)
        have k3 : wr.cell? ⟨w1.heap.size, 3, none⟩ = some (.int .u64 (W4 (R 0) 3)) := hR.cel 3 (by decide)
        have k4 : wr.cell? ⟨w1.heap.size, 4, none⟩ = some (.int .u64 (W4 (R 1) 0)) := hR.cel 4 (by decide)
        have k5 : wr.cell? ⟨w1.heap.size, 5, none⟩ = some (.int .u64 (W4 (R 1) 1)) := hR.cel 5 (by decide)
        have k6 : wr.cell? ⟨w1.heap.size, 6, none⟩ = some (.int .u64 (W4 (R 1) 2)) := hR.cel 6 (by decide)
        have k7 : wr.cell? ⟨w1.heap.size, 7, none⟩ = some (.int .u64 (W4 (R 1) 3)) := hR.cel 7 (by decide)
        have k8 : wr.cell? ⟨w1.heap.size, 8, none⟩ = some (.int .u64 (0)) := hR.cel 8 (by decide)
        have k9 : wr.cell? ⟨w1.heap.size, 9, none⟩ = some (.int .u64 (0)) := hR.cel 9 (by decide)
        have k10 : wr.cell? ⟨w1.heap.size, 10, none⟩ = some (.int .u64 (0)) := hR.cel 10 (by decide)
        have k11 : wr.cell? ⟨w1.heap.size, 11, none⟩ = some (.int .u64 (0)) := hR.cel 11 (by decide)
        have k12 : wr.cell? ⟨w1.heap.size, 12, none⟩ = some (.int .u64 (0)) := hR.cel 12 (by decide)
        have k13 : wr.cell? ⟨w1.heap.size, 13, none⟩ = some (.int .u64 (0)) := hR.cel 13 (by decide)
        have k14 : wr.cell? ⟨w1.heap.size, 14, none⟩ = some (.int .u64 (0)) := hR.cel 14 (by decide)
        have k15 : wr.cell? ⟨w1.heap.size, 15, none⟩ = some (.int .u64 (0)) := hR.cel 15 (by decide)
        have k16 : wr.cell? ⟨w1.heap.size, 16, none⟩ = some (.int .u64 (0)) := hR.cel 16 (by decide)
        have k17 : wr.cell? ⟨w1.heap.size, 17, none⟩ = some (.int .u64 (0)) := hR.cel 17 (by decide)
        have k18 : wr.cell? ⟨w1.heap.size, 18, none⟩ = some (.int .u64 (0)) := hR.cel 18 (by decide)
        have k19 : wr.cell? ⟨w1.heap.size, 19, none⟩ = some (.int .u64 (0)) := hR.cel 19 (by decide)
        have f8 : wr.frozen? ⟨w1.heap.size, 8, none⟩ = false := hR.fro 8 (by decide)
        have f9 : wr.frozen? ⟨w1.heap.size, 9, none⟩ = false := hR.fro 9 (by decide)
        have f10 : wr.frozen? ⟨w1.heap.size, 10, none⟩ = false := hR.fro 10 (by decide)
        have f11 : wr.frozen? ⟨w1.heap.size, 11, none⟩ = false := hR.fro 11 (by decide)
        have hFj := hF 2
        have hq1 : 0 ≤ (F 2).tdiv 8 := Int.tdiv_nonneg hFj.1 (by decide)
        have hq2 : (F 2).tdiv 8 ≤ 100 := by rw [Int.tdiv_eq_ediv_of_nonneg hFj.1]; omega
        have hm1 := smF_bd hF 2
        have c7j := fun W hW => c7 2 W (by decide) hW
        have HR : Hid (SdW w w1.heap.size R 2 wr) := hR
        have HS : Hid (smF F 3 = smF F 2 + (F 2).tdiv 8) := rfl
        generalize smF F 2 = sm at *
        clear hR
        go_wp2_with (first
          | (go_at_call 7; refine (c7j _ bgo).mono ?_; rintro r w3 ⟨rfl, hb3⟩; obtain ⟨hc3, hf3⟩ := bcell hb3; have hz3_0 : w1.heap.size < w3.heap.size := lt_below hb3 ltg; have hl3_0 := Nat.le_of_lt hz3_0; have hA3 := bnext (w0 := w) bgo hb3; have hs3 := hA3.size; clear hb3))
        go_round
        case rel =>
          have hfr := HR.out.fro
          refine ⟨3, by decide, rfl, by rw [HS.out], bgo, by simp; omega, hs1, fun i hi => ?_, fun i hi => ?_⟩
          · have hor : i = 0 ∨ i = 1 ∨ i = 2 ∨ i = 3 ∨ i = 4 ∨ i = 5 ∨ i = 6 ∨ i = 7 ∨ i = 8 ∨ i = 9 ∨ i = 10 ∨ i = 11 ∨ i = 12 ∨ i = 13 ∨ i = 14 ∨ i = 15 ∨ i = 16 ∨ i = 17 ∨ i = 18 ∨ i = 19 := by omega
            rcases hor with rfl | rfl | rfl | rfl | rfl | rfl | rfl | rfl | rfl | rfl | rfl | rfl | rfl | rfl | rfl | rfl | rfl | rfl | rfl | rfl
            all_goals (show _ = some (Value.int IntKind.u64 (if _ then _ else _)); go_simp)
          · have hfi := hfr i hi
            clear hfr
            go_simp
        case measure => simp [intOf]
      · have k0 : wr.cell? ⟨w1.heap.size, 0, none⟩ = some (.int .u64 (W4 (R 0) 0)) := hR.cel 0 (by decide)
        have k1 : wr.cell? ⟨w1.heap.size, 1, none⟩ = some (.int .u64 (W4 (R 0) 1)) := hR.cel 1 (by decide)
        have k2 : wr.cell? ⟨w1.heap.size, 2, none⟩ = some (.int .u64 (W4 (R 0) 2)) := hR.cel 2 (by decide)
        have k3 : wr.cell? ⟨w1.heap.size, 3, none⟩ = some (.int .u64 (W4 (R 0) 3)) := hR.cel 3 (by decide)
        have k4 : wr.cell? ⟨w1.heap.size, 4, none⟩ = some (.int .u64 (W4 (R 1) 0)) := hR.cel 4 (by decide)
        have k5 : wr.cell? ⟨w1.heap.size, 5, none⟩ = some (.int .u64 (W4 (R 1) 1)) := hR.cel 5 (by decide)
        have k6 : wr.cell? ⟨w1.heap.size, 6, none⟩ = some (.int .u64 (W4 (R 1) 2)) := hR.cel 6 (by decide)
        have k7 : wr.cell? ⟨w1.heap.size, 7, none⟩ = some (.int .u64 (W4 (R 1) 3)) := hR.cel 7 (by decide)
        have k8 : wr.cell? ⟨w1.heap.size, 8, none⟩ = some (.int .u64 (W4 (R 2) 0)) := hR.cel 8 (by decide)
        have k9 : wr.cell? ⟨w1.heap.size, 9, none⟩ = some (.int .u64 (W4 (R 2) 1)) := hR.cel 9 (by decide)
        have k10 : wr.cell? ⟨w1.heap.size, 10, none⟩ = some (.int .u64 (W4 (R 2) 2)) := hR.cel 10 (by decide)
        have k11 : wr.cell? ⟨w1.heap.size, 11, none⟩ = some (.int .u64 (W4 (R 2) 3)) := hR.cel 11 (by decide)
        have k12 : wr.cell? ⟨w1.heap.size, 12, none⟩ = some (.int .u64 (0)) := hR.cel 12 (by decide)
        have k13 : wr.cell? ⟨w1.heap.size, 13, none⟩ = some (.int .u64 (0)) := hR.cel 13 (by decide)
        have k14 : wr.cell? ⟨w1.heap.size, 14, none⟩ = some (.int .u64 (0)) := hR.cel 14 (by decide)
        have k15 : wr.cell? ⟨w1.heap.size, 15, none⟩ = some (.int .u64 (0)) := hR.cel 15 (by decide)
        have k16 : wr.cell? ⟨w1.heap.size, 16, none⟩ = some (.int .u64 (0)) := hR.cel 16 (by decide)
        have k17 : wr.cell? ⟨w1.heap.size, 17, none⟩ = some (.int .u64 (0)) := hR.cel 17 (by decide)
        have k18 : wr.cell? ⟨w1.heap.size, 18, none⟩ = some (.int .u64 (0)) := hR.cel 18 (by decide)
        have k19 : wr.cell? ⟨w1.heap.size, 19, none⟩ = some (.int .u64 (0)) := hR.cel 19 (by decide)
        have f12 : wr.frozen? ⟨w1.heap.size, 12, none⟩ = false := hR.fro 12 (by decide)
        have f13 : wr.frozen? ⟨w1.heap.size, 13, none⟩ = false := hR.fro 13 (by decide)
        have f14 : wr.frozen? ⟨w1.heap.size, 14, none⟩ = false := hR.fro 14 (by decide)
        have f15 : wr.frozen? ⟨w1.heap.size, 15, none⟩ = false := hR.fro 15 (by decide)
        have hFj := hF 3
        have hq1 : 0 ≤ (F 3).tdiv 8 := Int.tdiv_nonneg hFj.1 (by decide)
        have hq2 : (F 3).tdiv 8 ≤ 100 := by rw [Int.tdiv_eq_ediv_of_nonneg hFj.1]; omega
        have hm1 := smF_bd hF 3
        have c7j := fun W hW => c7 3 W (by decide) hW
        have HR : Hid (SdW w w1.heap.size R 3 wr) := hR
        have HS : Hid (smF F 4 = smF F 3 + (F 3).tdiv 8) := rfl
        generalize smF F 3 = sm at *
        clear hR
        go_wp2_with (first
          | (go_at_call 7; refine (c7j _ bgo).mono ?_; rintro r w3 ⟨rfl, hb3⟩; obtain ⟨hc3, hf3⟩ := bcell hb3; have hz3_0 : w1.heap.size < w3.heap.size := lt_below hb3 ltg; have hl3_0 := Nat.le_of_lt hz3_0; have hA3 := bnext (w0 := w) bgo hb3; have hs3 := hA3.size; clear hb3))
        go_round
        case rel =>
          have hfr := HR.out.fro
          refine ⟨4, by decide, rfl, by rw [HS.out], bgo, by simp; omega, hs1, fun i hi => ?_, fun i hi => ?_⟩
          · have hor : i = 0 ∨ i = 1 ∨ i = 2 ∨ i = 3 ∨ i = 4 ∨ i = 5 ∨ i = 6 ∨ i = 7 ∨ i = 8 ∨ i = 9 ∨ i = 10 ∨ i = 11 ∨ i = 12 ∨ i = 13 ∨ i = 14 ∨ i = 15 ∨ i = 16 ∨ i = 17 ∨ i = 18 ∨ i = 19 := by omega
            rcases hor with rfl | rfl | rfl | rfl | rfl | rfl | rfl | rfl | rfl | rfl | rfl | rfl | rfl | rfl | rfl | rfl | rfl | rfl | rfl | rfl
            all_goals (show _ = some (Value.int IntKind.u64 (if _ then _ else _)); go_simp)
          · have hfi := hfr i hi
            clear hfr
            go_simp
        case measure => simp [intOf]
      · have k0 : wr.cell? ⟨w1.heap.size, 0, none⟩ = some (.int .u64 (W4 (R 0) 0)) := hR.cel 0 (by decide)
        have k1 : wr.cell? ⟨w1.heap.size, 1, none⟩ = some (.int .u64 (W4 (R 0) 1)) := hR.cel 1 (by decide)
        have k2 : wr.cell? ⟨w1.heap.size, 2, none⟩ = some (.int .u64 (W4 (R 0) 2)) := hR.cel 2 (by decide)
        have k3 : wr.cell? ⟨w1.heap.size, 3, none⟩ = some (.int .u64 (W4 (R 0) 3)) := hR.cel 3 (by decide)
        have k4 : wr.cell? ⟨w1.heap.size, 4, none⟩ = some (.int .u64 (W4 (R 1) 0)) := hR.cel 4 (by decide)
        have k5 : wr.cell? ⟨w1.heap.size, 5, none⟩ = some (.int .u64 (W4 (R 1) 1)) := hR.cel 5 (by decide)
        have k6 : wr.cell? ⟨w1.heap.size, 6, none⟩ = some (.int .u64 (W4 (R 1) 2)) := hR.cel 6 (by decide)
        have k7 : wr.cell? ⟨w1.heap.size, 7, none⟩ = some (.int .u64 (W4 (R 1) 3)) := hR.cel 7 (by decide)
        have k8 : wr.cell? ⟨w1.heap.size, 8, none⟩ = some (.int .u64 (W4 (R 2) 0)) := hR.cel 8 (by decide)
        have k9 : wr.cell? ⟨w1.heap.size, 9, none⟩ = some (.int .u64 (W4 (R 2) 1)) := hR.cel 9 (by decide)
        have k10 : wr.cell? ⟨w1.heap.size, 10, none⟩ = some (.int .u64 (W4 (R 2) 2)) := hR.cel 10 (by decide)
        have k11 : wr.cell? ⟨w1.heap.size, 11, none⟩ = some (.int .u64 (W4 (R 2) 3)) := hR.cel 11 (by decide)
        have k12 : wr.cell? ⟨w1.heap.size, 12, none⟩ = some (.int .u64 (W4 (R 3) 0)) := hR.cel 12 (by decide)
        have k13 : wr.cell? ⟨w1.heap.size, 13, none⟩ = some (.int .u64 (W4 (R 3) 1)) := hR.cel 13 (by decide)
        have k14 : wr.cell? ⟨w1.heap.size, 14, none⟩ = some (.int .u64 (W4 (R 3) 2)) := hR.cel 14 (by decide)
        have k15 : wr.cell? ⟨w1.heap.size, 15, none⟩ = some (.int .u64 (W4 (R 3) 3)) := hR.cel 15 (by decide)
        have k16 : wr.cell? ⟨w1.heap.size, 16, none⟩ = some (.int .u64 (0)) := hR.cel 16 (by decide)
        have k17 : wr.cell? ⟨w1.heap.size, 17, none⟩ = some (.int .u64 (0)) := hR.cel 17 (by decide)
        have k18 : wr.cell? ⟨w1.heap.size, 18, none⟩ = some (.int .u64 (0)) := hR.cel 18 (by decide)
        have k19 : wr.cell? ⟨w1.heap.size, 19, none⟩ = some (.int .u64 (0)) := hR.cel 19 (by decide)
        have f16 : wr.frozen? ⟨w1.heap.size, 16, none⟩ = false := hR.fro 16 (by decide)
        have f17 : wr.frozen? ⟨w1.heap.size, 17, none⟩ = false := hR.fro 17 (by decide)
        have f18 : wr.frozen? ⟨w1.heap.size, 18, none⟩ = false := hR.fro 18 (by decide)
        have f19 : wr.frozen? ⟨w1.heap.size, 19, none⟩ = false := hR.fro 19 (by decide)
        have hFj := hF 4
        have hq1 : 0 ≤ (F 4).tdiv 8 := Int.tdiv_nonneg hFj.1 (by decide)
        have hq2 : (F 4).tdiv 8 ≤ 100 := by rw [Int.tdiv_eq_ediv_of_nonneg hFj.1]; omega
        have hm1 := smF_bd hF 4
        have c7j := fun W hW => c7 4 W (by decide) hW
        have HR : Hid (SdW w w1.heap.size R 4 wr) := hR
        have HS : Hid (smF F 5 = smF F 4 + (F 4).tdiv 8) := rfl
        generalize smF F 4 = sm at *
        clear hR
        go_wp2_with (first
          | (go_at_call 7; refine (c7j _ bgo).mono ?_; rintro r w3 ⟨rfl, hb3⟩; obtain ⟨hc3, hf3⟩ := bcell hb3; have hz3_0 : w1.heap.size < w3.heap.size := lt_below hb3 ltg; have hl3_0 := Nat.le_of_lt hz3_0; have hA3 := bnext (w0 := w) bgo hb3; have hs3 := hA3.size; clear hb3))
        go_round
        case rel =>
          have hfr := HR.out.fro
          refine ⟨5, by decide, rfl, by rw [HS.out], bgo, by simp; omega, hs1, fun i hi => ?_, fun i hi => ?_⟩
          · have hor : i = 0 ∨ i = 1 ∨ i = 2 ∨ i = 3 ∨ i = 4 ∨ i = 5 ∨ i = 6 ∨ i = 7 ∨ i = 8 ∨ i = 9 ∨ i = 10 ∨ i = 11 ∨ i = 12 ∨ i = 13 ∨ i = 14 ∨ i = 15 ∨ i = 16 ∨ i = 17 ∨ i = 18 ∨ i = 19 := by omega
            rcases hor with rfl | rfl | rfl | rfl | rfl | rfl | rfl | rfl | rfl | rfl | rfl | rfl | rfl | rfl | rfl | rfl | rfl | rfl | rfl | rfl
            all_goals (show _ = some (Value.int IntKind.u64 (if _ then _ else _)); go_simp)
          · have hfi := hfr i hi
            clear hfr
            go_simp
        case measure => simp [intOf]
set_option maxHeartbeats 8000000 in
theorem sd_Bf (hsb : s = false) (bR : ∀ i, R i < 2 ^ 256) (hs5 : smF F 5 = 5) (hH : R 3 = R 4 + 1) (h2 : R 2 = R 4) (h0 : R 0 = R 4 ∨ R 0 = R 3) (h1 : R 1 = R 4 ∨ R 1 = R 3) :
    Calls Tryd.prog 3 #[.int .i64 n, .bool s, .slice a k c, .slice a' k' c', .int .i64 x] w fun r w' => r = .returned (.bool true) ∧ Below w.heap.size w w' := by
  subst hsb
  have HHH : Hid (R 3 = R 4 + 1 ∧ R 2 = R 4 ∧ (R 0 = R 4 ∨ R 0 = R 3) ∧ (R 1 = R 4 ∨ R 1 = R 3)) := ⟨hH, h2, h0, h1⟩
  clear hH h2 h0 h1
  have HS5 : Hid (smF F 5 = 5) := hs5
  clear hs5
  have c4 := awake6
  have hsm := cell_set_map
  unfold A4 at c7
  go_enter Tryd.func3, Tryd.ntmps3
  go_wp2_with (first
    | (go_at_call 4; refine (c4 _ (hT.go bgo)).mono ?_; rintro r w1 ⟨rfl, hb1⟩; obtain ⟨hc1, hf1⟩ := bcell hb1; have hA1 := bnext (w0 := w) bgo hb1; have hs1 := hA1.size; clear hb1)
    | (go_at_call 5; refine (c5 _).mono ?_; rintro r w2 ⟨rfl, rfl⟩)
    | (go_at_call 6; refine (c6 _ bgo).mono ?_; rintro r w2 ⟨rfl, rfl⟩))
  go_loopw [12, 41] (fun t12 t41 wr => ∃ j : Nat, j ≤ 5 ∧ t41 = .int .i64 (j : Int) ∧ t12 = .int .i64 (smF F j) ∧ SdW w w1.heap.size R j wr) (fun _ t41 _ => 5 - (intOf t41).toNat)
  case atStart =>
    have hz : ∀ i q, rwV R 0 i q = 0 := fun _ _ => if_neg (by omega)
    refine ⟨0, by decide, rfl, rfl, bgo, by simp, hs1, fun i hi => ?_, fun i hi => ?_⟩
    · rw [hz]
      have hor : i = 0 ∨ i = 1 ∨ i = 2 ∨ i = 3 ∨ i = 4 ∨ i = 5 ∨ i = 6 ∨ i = 7 ∨ i = 8 ∨ i = 9 ∨ i = 10 ∨ i = 11 ∨ i = 12 ∨ i = 13 ∨ i = 14 ∨ i = 15 ∨ i = 16 ∨ i = 17 ∨ i = 18 ∨ i = 19 := by omega
      rcases hor with rfl | rfl | rfl | rfl | rfl | rfl | rfl | rfl | rfl | rfl | rfl | rfl | rfl | rfl | rfl | rfl | rfl | rfl | rfl | rfl <;> go_simp
    · go_simp
  case round =>
    obtain ⟨j, hj, rfl, rfl, hR⟩ := hrel
    have hA0 := hR.bel
    have hl0 := hR.lt
    have hs0 := hA0.size
    by_cases h5 : j = 5
    · subst h5
      have kk : ∀ i, i < 20 → wr.cell? ⟨w1.heap.size, i, none⟩ = some (.int .u64 (W4 (R (i / 4)) (i % 4))) := fun i hi => by
        have := hR.cel i hi
        rw [show rwV R 5 (i / 4) (i % 4) = W4 (R (i / 4)) (i % 4) from if_pos (by omega)] at this
        exact this
      clear hR c7 c6 c5 c4
      rw [HS5.out]
      have k0 : wr.cell? ⟨w1.heap.size, 0, none⟩ = some (.int .u64 (W4 (R 0) 0)) := kk 0 (by decide)
      have k1 : wr.cell? ⟨w1.heap.size, 1, none⟩ = some (.int .u64 (W4 (R 0) 1)) := kk 1 (by decide)
      have k2 : wr.cell? ⟨w1.heap.size, 2, none⟩ = some (.int .u64 (W4 (R 0) 2)) := kk 2 (by decide)
      have k3 : wr.cell? ⟨w1.heap.size, 3, none⟩ = some (.int .u64 (W4 (R 0) 3)) := kk 3 (by decide)
      have k4 : wr.cell? ⟨w1.heap.size, 4, none⟩ = some (.int .u64 (W4 (R 1) 0)) := kk 4 (by decide)
      have k5 : wr.cell? ⟨w1.heap.size, 5, none⟩ = some (.int .u64 (W4 (R 1) 1)) := kk 5 (by decide)
      have k6 : wr.cell? ⟨w1.heap.size, 6, none⟩ = some (.int .u64 (W4 (R 1) 2)) := kk 6 (by decide)
      have k7 : wr.cell? ⟨w1.heap.size, 7, none⟩ = some (.int .u64 (W4 (R 1) 3)) := kk 7 (by decide)
      have k8 : wr.cell? ⟨w1.heap.size, 8, none⟩ = some (.int .u64 (W4 (R 2) 0)) := kk 8 (by decide)
      have k9 : wr.cell? ⟨w1.heap.size, 9, none⟩ = some (.int .u64 (W4 (R 2) 1)) := kk 9 (by decide)
      have k10 : wr.cell? ⟨w1.heap.size, 10, none⟩ = some (.int .u64 (W4 (R 2) 2)) := kk 10 (by decide)
      have k11 : wr.cell? ⟨w1.heap.size, 11, none⟩ = some (.int .u64 (W4 (R 2) 3)) := kk 11 (by decide)
      have k12 : wr.cell? ⟨w1.heap.size, 12, none⟩ = some (.int .u64 (W4 (R 3) 0)) := kk 12 (by decide)
      have k13 : wr.cell? ⟨w1.heap.size, 13, none⟩ = some (.int .u64 (W4 (R 3) 1)) := kk 13 (by decide)
      have k14 : wr.cell? ⟨w1.heap.size, 14, none⟩ = some (.int .u64 (W4 (R 3) 2)) := kk 14 (by decide)
      have k15 : wr.cell? ⟨w1.heap.size, 15, none⟩ = some (.int .u64 (W4 (R 3) 3)) := kk 15 (by decide)
      have k16 : wr.cell? ⟨w1.heap.size, 16, none⟩ = some (.int .u64 (W4 (R 4) 0)) := kk 16 (by decide)
      have k17 : wr.cell? ⟨w1.heap.size, 17, none⟩ = some (.int .u64 (W4 (R 4) 1)) := kk 17 (by decide)
      have k18 : wr.cell? ⟨w1.heap.size, 18, none⟩ = some (.int .u64 (W4 (R 4) 2)) := kk 18 (by decide)
      have k19 : wr.cell? ⟨w1.heap.size, 19, none⟩ = some (.int .u64 (W4 (R 4) 3)) := kk 19 (by decide)
      clear kk
      go_wp2
      refine reg18 (h11 := w1.heap.size) (X3 := R 3) (X4 := R 4) rfl rfl hl0 k12 k13 k14 k15 k16 k17 k18 k19 ?_
      intro a' w4 g h e17 e18 hne hg hh hBg hBh hsz' hdf hFr hb4
      have ha := act_of slots18 7 rfl hsz' hdf hFr
      rw [ha]
      simp only [slots18, List.foldl_cons, List.foldl_nil, Act.put, List.setIfInBounds_toArray, List.set_cons_succ, List.set_cons_zero, e17, e18]
      generalize slot a' 71 = s71
      generalize slot a' 72 = s72
      generalize slot a' 73 = s73
      generalize slot a' 74 = s74
      generalize slot a' 100 = s100
      clear ha e17 e18 hsz' hdf hFr
      replace k0 := (hb4.cell (p := ⟨w1.heap.size, 0, none⟩) hl0).trans k0
      replace k1 := (hb4.cell (p := ⟨w1.heap.size, 1, none⟩) hl0).trans k1
      replace k2 := (hb4.cell (p := ⟨w1.heap.size, 2, none⟩) hl0).trans k2
      replace k3 := (hb4.cell (p := ⟨w1.heap.size, 3, none⟩) hl0).trans k3
      replace k4 := (hb4.cell (p := ⟨w1.heap.size, 4, none⟩) hl0).trans k4
      replace k5 := (hb4.cell (p := ⟨w1.heap.size, 5, none⟩) hl0).trans k5
      replace k6 := (hb4.cell (p := ⟨w1.heap.size, 6, none⟩) hl0).trans k6
      replace k7 := (hb4.cell (p := ⟨w1.heap.size, 7, none⟩) hl0).trans k7
      replace k8 := (hb4.cell (p := ⟨w1.heap.size, 8, none⟩) hl0).trans k8
      replace k9 := (hb4.cell (p := ⟨w1.heap.size, 9, none⟩) hl0).trans k9
      replace k10 := (hb4.cell (p := ⟨w1.heap.size, 10, none⟩) hl0).trans k10
      replace k11 := (hb4.cell (p := ⟨w1.heap.size, 11, none⟩) hl0).trans k11
      clear k12 k13 k14 k15 k16 k17 k18 k19
      have hl4 : w1.heap.size < w4.heap.size := Nat.lt_of_lt_of_le hl0 hb4.size
      have hA4 := bnext (w0 := w) hA0 hb4
      have hs4 := hA4.size
      have hg1 : w1.heap.size ≠ g := by omega
      have hg2 : w1.heap.size ≠ h := by omega
      have hgw : w.heap.size ≤ g := by omega
      have hhw : w.heap.size ≤ h := by omega
      clear hb4
      go_wp2
      have hBl := hBg
      have hBu := hBh
      have hA5 := hA4
      have hl5 := hl4
      clear hBg hBh
      obtain ⟨hH, h2, h0, h1⟩ := HHH.out
      have bl := bR 4
      have bu := bR 3
      have hle : R 4 ≤ R 3 := by omega
      clear hH h2 h0 h1
      refine reg21 (g := g) (h := h) (K := 8) (X := R 3 - R 4) rfl rfl rfl (fun W hW => rless_nt (by decide) (by decide) (NVB bu (hBu.next hW)) (NVB bl (hBl.next hW)) hle) ?_
      intro a'' w6 u e19 hu hsz' hdf hFr hb6
      have ha := act_of slotsA21 4 rfl hsz' hdf hFr
      rw [ha]
      simp only [slotsA21, List.foldl_cons, List.foldl_nil, Act.put, List.setIfInBounds_toArray, List.set_cons_succ, List.set_cons_zero, e19]
      generalize slot a'' 78 = r78
      generalize slot a'' 79 = r79
      generalize slot a'' 80 = r80
      clear ha e19 hsz' hdf hFr
      replace k0 := (hb6.cell (p := ⟨w1.heap.size, 0, none⟩) hl5).trans k0
      replace k1 := (hb6.cell (p := ⟨w1.heap.size, 1, none⟩) hl5).trans k1
      replace k2 := (hb6.cell (p := ⟨w1.heap.size, 2, none⟩) hl5).trans k2
      replace k3 := (hb6.cell (p := ⟨w1.heap.size, 3, none⟩) hl5).trans k3
      replace k4 := (hb6.cell (p := ⟨w1.heap.size, 4, none⟩) hl5).trans k4
      replace k5 := (hb6.cell (p := ⟨w1.heap.size, 5, none⟩) hl5).trans k5
      replace k6 := (hb6.cell (p := ⟨w1.heap.size, 6, none⟩) hl5).trans k6
      replace k7 := (hb6.cell (p := ⟨w1.heap.size, 7, none⟩) hl5).trans k7
      replace k8 := (hb6.cell (p := ⟨w1.heap.size, 8, none⟩) hl5).trans k8
      replace k9 := (hb6.cell (p := ⟨w1.heap.size, 9, none⟩) hl5).trans k9
      replace k10 := (hb6.cell (p := ⟨w1.heap.size, 10, none⟩) hl5).trans k10
      replace k11 := (hb6.cell (p := ⟨w1.heap.size, 11, none⟩) hl5).trans k11
      replace hBl := hBl.next hb6
      replace hBu := hBu.next hb6
      have hl6 : w1.heap.size < w6.heap.size := Nat.lt_of_lt_of_le hl5 hb6.size
      have hA6 := bnext (w0 := w) hA5 hb6
      clear hb6
      obtain ⟨hH, h2, h0, h1⟩ := HHH.out
      have e1 : R 3 - R 4 = 1 := by omega
      rw [e1] at hu
      clear e1
      have c9 : ∀ W, Below w6.heap.size w6 W → Calls Tryd.prog 9 #[.slice (some ⟨h, 0, none⟩) 4 4, .slice (some ⟨g, 0, none⟩) 4 4] W fun e w' => e = .returned (.int .i64 1) ∧ Below W.heap.size W w' := fun W hW => by
        have := rcmp_nv (by decide) (by decide) (NVB bu (hBu.next hW)) (NVB bl (hBl.next hW))
        rw [show sgn ((R 3 : Nat) : Int) (R 4 : Nat) = 1 from by rcases sgn_ways ((R 3 : Nat) : Int) (R 4 : Nat) with ⟨h, _⟩ | ⟨h, _⟩ | ⟨_, h⟩ <;> first | exact h | omega] at this
        exact this.mono fun e w' ⟨h1, h2⟩ => ⟨h1, h2 ▸ Below.refl _ _⟩
      have c10 : ∀ W v v', Below w6.heap.size w6 W → NT 8 1 v W → NT 1 1 v' W → Calls Tryd.prog 10 #[v, v'] W fun e w' => e = .returned (.bool true) ∧ Below W.heap.size W w' := fun W v v' hW hv hv' =>
        (rsame_nt1 hv hv').mono fun e w' ⟨h1, h2⟩ => ⟨h1, h2 ▸ Below.refl _ _⟩
      clear hH h2 h0 h1 hle
      go_wp2
      obtain ⟨hH, h2, h0, h1⟩ := HHH.out
      by_cases z0 : R 0 = R 4
      · by_cases z1 : R 1 = R 4
        · refine reg24tt (h11 := w1.heap.size) (g := g) (h := h) (X0 := R 0) (X1 := R 1) (X2 := R 2) (XL := R 4) (XH := R 3) (K1 := 8) rfl rfl rfl rfl rfl hu hl6 k0 k1 k2 k3 k4 k5 k6 k7 k8 k9 k10 k11 hBl hBu (bR 0) (bR 1) (bR 2) bl bu (decide_eq_true h2) (decide_eq_true z0) (decide_eq_true z1) c9 c10 ?_
          intro af wf e10 hsz' hdf hbf
          go_wp2
          refine bodyPost_ret (v := .bool true) ?_ hdf ⟨rfl, bnext (w0 := w) hA6 hbf⟩
          unfold slot at e10
          rw [Array.getElem?_eq_getElem (by omega)] at e10
          simp only [results, Tryd.results3]
          go_simp
        · refine reg24tf (h11 := w1.heap.size) (g := g) (h := h) (X0 := R 0) (X1 := R 1) (X2 := R 2) (XL := R 4) (XH := R 3) (K1 := 8) rfl rfl rfl rfl rfl hu hl6 k0 k1 k2 k3 k4 k5 k6 k7 k8 k9 k10 k11 hBl hBu (bR 0) (bR 1) (bR 2) bl bu (decide_eq_true h2) (decide_eq_true z0) (decide_eq_false z1) (decide_eq_true (h1.resolve_left z1)) c9 c10 ?_
          intro af wf e10 hsz' hdf hbf
          go_wp2
          refine bodyPost_ret (v := .bool true) ?_ hdf ⟨rfl, bnext (w0 := w) hA6 hbf⟩
          unfold slot at e10
          rw [Array.getElem?_eq_getElem (by omega)] at e10
          simp only [results, Tryd.results3]
          go_simp
      · by_cases z1 : R 1 = R 4
        · refine reg24ft (h11 := w1.heap.size) (g := g) (h := h) (X0 := R 0) (X1 := R 1) (X2 := R 2) (XL := R 4) (XH := R 3) (K1 := 8) rfl rfl rfl rfl rfl hu hl6 k0 k1 k2 k3 k4 k5 k6 k7 k8 k9 k10 k11 hBl hBu (bR 0) (bR 1) (bR 2) bl bu (decide_eq_true h2) (decide_eq_false z0) (decide_eq_true z1) (decide_eq_true (h0.resolve_left z0)) c9 c10 ?_
          intro af wf e10 hsz' hdf hbf
          go_wp2
          refine bodyPost_ret (v := .bool true) ?_ hdf ⟨rfl, bnext (w0 := w) hA6 hbf⟩
          unfold slot at e10
          rw [Array.getElem?_eq_getElem (by omega)] at e10
          simp only [results, Tryd.results3]
          go_simp
        · refine reg24ff (h11 := w1.heap.size) (g := g) (h := h) (X0 := R 0) (X1 := R 1) (X2 := R 2) (XL := R 4) (XH := R 3) (K1 := 8) rfl rfl rfl rfl rfl hu hl6 k0 k1 k2 k3 k4 k5 k6 k7 k8 k9 k10 k11 hBl hBu (bR 0) (bR 1) (bR 2) bl bu (decide_eq_true h2) (decide_eq_false z0) (decide_eq_false z1) (decide_eq_true (h0.resolve_left z0)) (decide_eq_true (h1.resolve_left z1)) c9 c10 ?_
          intro af wf e10 hsz' hdf hbf
          go_wp2
          refine bodyPost_ret (v := .bool true) ?_ hdf ⟨rfl, bnext (w0 := w) hA6 hbf⟩
          unfold slot at e10
          rw [Array.getElem?_eq_getElem (by omega)] at e10
          simp only [results, Tryd.results3]
          go_simp
    · have hor : j = 0 ∨ j = 1 ∨ j = 2 ∨ j = 3 ∨ j = 4 := by omega
      rcases hor with rfl | rfl | rfl | rfl | rfl
      · have k0 : wr.cell? ⟨w1.heap.size, 0, none⟩ = some (.int .u64 (0)) := hR.cel 0 (by decide)
        have k1 : wr.cell? ⟨w1.heap.size, 1, none⟩ = some (.int .u64 (0)) := hR.cel 1 (by decide)
        have k2 : wr.cell? ⟨w1.heap.size, 2, none⟩ = some (.int .u64 (0)) := hR.cel 2 (by decide)
        have k3 : wr.cell? ⟨w1.heap.size, 3, none⟩ = some (.int .u64 (0)) := hR.cel 3 (by decide)
        have k4 : wr.cell? ⟨w1.heap.size, 4, none⟩ = some (.int .u64 (0)) := hR.cel 4 (by decide)
        have k5 : wr.cell? ⟨w1.heap.size, 5, none⟩ = some (.int .u64 (0)) := hR.cel 5 (by decide)
        have k6 : wr.cell? ⟨w1.heap.size, 6, none⟩ = some (.int .u64 (0)) := hR.cel 6 (by decide)
        have k7 : wr.cell? ⟨w1.heap.size, 7, none⟩ = some (.int .u64 (0)) := hR.cel 7 (by decide)
        have k8 : wr.cell? ⟨w1.heap.size, 8, none⟩ = some (.int .u64 (0)) := hR.cel 8 (by decide)
        have k9 : wr.cell? ⟨w1.heap.size, 9, none⟩ = some (.int .u64 (0)) := hR.cel 9 (by decide)
        have k10 : wr.cell? ⟨w1.heap.size, 10, none⟩ = some (.int .u64 (0)) := hR.cel 10 (by decide)
        have k11 : wr.cell? ⟨w1.heap.size, 11, none⟩ = some (.int .u64 (0)) := hR.cel 11 (by decide)
        have k12 : wr.cell? ⟨w1.heap.size, 12, none⟩ = some (.int .u64 (0)) := hR.cel 12 (by decide)
        have k13 : wr.cell? ⟨w1.heap.size, 13, none⟩ = some (.int .u64 (0)) := hR.cel 13 (by decide)
        have k14 : wr.cell? ⟨w1.heap.size, 14, none⟩ = some (.int .u64 (0)) := hR.cel 14 (by decide)
        have k15 : wr.cell? ⟨w1.heap.size, 15, none⟩ = some (.int .u64 (0)) := hR.cel 15 (by decide)
        have k16 : wr.cell? ⟨w1.heap.size, 16, none⟩ = some (.int .u64 (0)) := hR.cel 16 (by decide)
        have k17 : wr.cell? ⟨w1.heap.size, 17, none⟩ = some (.int .u64 (0)) := hR.cel 17 (by decide)
        have k18 : wr.cell? ⟨w1.heap.size, 18, none⟩ = some (.int .u64 (0)) := hR.cel 18 (by decide)
        have k19 : wr.cell? ⟨w1.heap.size, 19, none⟩ = some (.int .u64 (0)) := hR.cel 19 (by decide)
        have f0 : wr.frozen? ⟨w1.heap.size, 0, none⟩ = false := hR.fro 0 (by decide)
        have f1 : wr.frozen? ⟨w1.heap.size, 1, none⟩ = false := hR.fro 1 (by decide)
        have f2 : wr.frozen? ⟨w1.heap.size, 2, none⟩ = false := hR.fro 2 (by decide)
        have f3 : wr.frozen? ⟨w1.heap.size, 3, none⟩ = false := hR.fro 3 (by decide)
        have hFj := hF 0
        have hq1 : 0 ≤ (F 0).tdiv 8 := Int.tdiv_nonneg hFj.1 (by decide)
        have hq2 : (F 0).tdiv 8 ≤ 100 := by rw [Int.tdiv_eq_ediv_of_nonneg hFj.1]; omega
        have hm1 := smF_bd hF 0
        have c7j := fun W hW => c7 0 W (by decide) hW
        have HR : Hid (SdW w w1.heap.size R 0 wr) := hR
        have HS : Hid (smF F 1 = smF F 0 + (F 0).tdiv 8) := rfl
        generalize smF F 0 = sm at *
        clear hR
        go_wp2_with (first
          | (go_at_call 7; refine (c7j _ bgo).mono ?_; rintro r w3 ⟨rfl, hb3⟩; obtain ⟨hc3, hf3⟩ := bcell hb3; have hz3_0 : w1.heap.size < w3.heap.size := lt_below hb3 ltg; have hl3_0 := Nat.le_of_lt hz3_0; have hA3 := bnext (w0 := w) bgo hb3; have hs3 := hA3.size; clear hb3))
        go_round
        case rel =>
          have hfr := HR.out.fro
          refine ⟨1, by decide, rfl, by rw [HS.out], bgo, by simp; omega, hs1, fun i hi => ?_, fun i hi => ?_⟩
          · have hor : i = 0 ∨ i = 1 ∨ i = 2 ∨ i = 3 ∨ i = 4 ∨ i = 5 ∨ i = 6 ∨ i = 7 ∨ i = 8 ∨ i = 9 ∨ i = 10 ∨ i = 11 ∨ i = 12 ∨ i = 13 ∨ i = 14 ∨ i = 15 ∨ i = 16 ∨ i = 17 ∨ i = 18 ∨ i = 19 := by omega
            rcases hor with rfl | rfl | rfl | rfl | rfl | rfl | rfl | rfl | rfl | rfl | rfl | rfl | rfl | rfl | rfl | rfl | rfl | rfl | rfl | rfl
            all_goals (show _ = some (Value.int IntKind.u64 (if _ then _ else _)); go_simp)
          · have hfi := hfr i hi
            clear hfr
            go_simp
        case measure => simp [intOf]
      · have k0 : wr.cell? ⟨w1.heap.size, 0, none⟩ = some (.int .u64 (W4 (R 0) 0)) := hR.cel 0 (by decide)
        have k1 : wr.cell? ⟨w1.heap.size, 1, none⟩ = some (.int .u64 (W4 (R 0) 1)) := hR.cel 1 (by decide)
        have k2 : wr.cell? ⟨w1.heap.size, 2, none⟩ = some (.int .u64 (W4 (R 0) 2)) := hR.cel 2 (by decide)
        have k3 : wr.cell? ⟨w1.heap.size, 3, none⟩ = some (.int .u64 (W4 (R 0) 3)) := hR.cel 3 (by decide)
        have k4 : wr.cell? ⟨w1.heap.size, 4, none⟩ = some (.int .u64 (0)) := hR.cel 4 (by decide)
        have k5 : wr.cell? ⟨w1.heap.size, 5, none⟩ = some (.int .u64 (0)) := hR.cel 5 (by decide)
        have k6 : wr.cell? ⟨w1.heap.size, 6, none⟩ = some (.int .u64 (0)) := hR.cel 6 (by decide)
        have k7 : wr.cell? ⟨w1.heap.size, 7, none⟩ = some (.int .u64 (0)) := hR.cel 7 (by decide)
        have k8 : wr.cell? ⟨w1.heap.size, 8, none⟩ = some (.int .u64 (0)) := hR.cel 8 (by decide)
        have k9 : wr.cell? ⟨w1.heap.size, 9, none⟩ = some (.int .u64 (0)) := hR.cel 9 (by decide)
        have k10 : wr.cell? ⟨w1.heap.size, 10, none⟩ = some (.int .u64 (0)) := hR.cel 10 (by decide)
        have k11 : wr.cell? ⟨w1.heap.size, 11, none⟩ = some (.int .u64 (0)) := hR.cel 11 (by decide)
        have k12 : wr.cell? ⟨w1.heap.size, 12, none⟩ = some (.int .u64 (0)) := hR.cel 12 (by decide)
        have k13 : wr.cell? ⟨w1.heap.size, 13, none⟩ = some (.int .u64 (0)) := hR.cel 13 (by decide)
        have k14 : wr.cell? ⟨w1.heap.size, 14, none⟩ = some (.int .u64 (0)) := hR.cel 14 (by decide)
        have k15 : wr.cell? ⟨w1.heap.size, 15, none⟩ = some (.int .u64 (0)) := hR.cel 15 (by decide)
        have k16 : wr.cell? ⟨w1.heap.size, 16, none⟩ = some (.int .u64 (0)) := hR.cel 16 (by decide)
        have k17 : wr.cell? ⟨w1.heap.size, 17, none⟩ = some (.int .u64 (0)) := hR.cel 17 (by decide)
        have k18 : wr.cell? ⟨w1.heap.size, 18, none⟩ = some (.int .u64 (0)) := hR.cel 18 (by decide)
        have k19 : wr.cell? ⟨w1.heap.size, 19, none⟩ = some (.int .u64 (0)) := hR.cel 19 (by decide)
        have f4 : wr.frozen? ⟨w1.heap.size, 4, none⟩ = false := hR.fro 4 (by decide)
        have f5 : wr.frozen? ⟨w1.heap.size, 5, none⟩ = false := hR.fro 5 (by decide)
        have f6 : wr.frozen? ⟨w1.heap.size, 6, none⟩ = false := hR.fro 6 (by decide)
        have f7 : wr.frozen? ⟨w1.heap.size, 7, none⟩ = false := hR.fro 7 (by decide)
        have hFj := hF 1
        have hq1 : 0 ≤ (F 1).tdiv 8 := Int.tdiv_nonneg hFj.1 (by decide)
        have hq2 : (F 1).tdiv 8 ≤ 100 := by rw [Int.tdiv_eq_ediv_of_nonneg hFj.1]; omega
        have hm1 := smF_bd hF 1
        have c7j := fun W hW => c7 1 W (by decide) hW
        have HR : Hid (SdW w w1.heap.size R 1 wr) := hR
        have HS : Hid (smF F 2 = smF F 1 + (F 1).tdiv 8) := rfl
        generalize smF F 1 = sm at *
        clear hR
        go_wp2_with (first
          | (go_at_call 7; refine (c7j _ bgo).mono ?_; rintro r w3 ⟨rfl, hb3⟩; obtain ⟨hc3, hf3⟩ := bcell hb3; have hz3_0 : w1.heap.size < w3.heap.size := lt_below hb3 ltg; have hl3_0 := Nat.le_of_lt hz3_0; have hA3 := bnext (w0 := w) bgo hb3; have hs3 := hA3.size; clear hb3))
        go_round
        case rel =>
          have hfr := HR.out.fro
          refine ⟨2, by decide, rfl, by rw [HS.out], bgo, by simp; omega, hs1, fun i hi => ?_, fun i hi => ?_⟩
          · have hor : i = 0 ∨ i = 1 ∨ i = 2 ∨ i = 3 ∨ i = 4 ∨ i = 5 ∨ i = 6 ∨ i = 7 ∨ i = 8 ∨ i = 9 ∨ i = 10 ∨ i = 11 ∨ i = 12 ∨ i = 13 ∨ i = 14 ∨ i = 15 ∨ i = 16 ∨ i = 17 ∨ i = 18 ∨ i = 19 := by omega
            rcases hor with rfl | rfl | rfl | rfl | rfl | rfl | rfl | rfl | rfl | rfl | rfl | rfl | rfl | rfl | rfl | rfl | rfl | rfl | rfl | rfl
            all_goals (show _ = some (Value.int IntKind.u64 (if _ then _ else _)); go_simp)
          · have hfi := hfr i hi
            clear hfr
            go_simp
        case measure => simp [intOf]
      · have k0 : wr.cell? ⟨w1.heap.size, 0, none⟩ = some (.int .u64 (W4 (R 0) 0)) := hR.cel 0 (by decide)
        have k1 : wr.cell? ⟨w1.heap.size, 1, none⟩ = some (.int .u64 (W4 (R 0) 1)) := hR.cel 1 (by decide)
        have k2 : wr.cell? ⟨w1.heap.size, 2, none⟩ = some (.int .u64 (W4 (R 0) 2)) := hR.cel 2 (by decide)
        have k3 : wr.cell? ⟨w1.heap.size, 3, none⟩ = some (.int .u64 (W4 (R 0) 3)) := hR.cel 3 (by decide)
        have k4 : wr.cell? ⟨w1.heap.size, 4, none⟩ = some (.int .u64 (W4 (R 1) 0)) := hR.cel 4 (by decide)
        have k5 : wr.cell? ⟨w1.heap.size, 5, none⟩ = some (.int .u64 (W4 (R 1) 1)) := hR.cel 5 (by decide)
        have k6 : wr.cell? ⟨w1.heap.size, 6, none⟩ = some (.int .u64 (W4 (R 1) 2)) := hR.cel 6 (by decide)
        have k7 : wr.cell? ⟨w1.heap.size, 7, none⟩ = some (.int .u64 (W4 (R 1) 3)) := hR.cel 7 (by decide)
        have k8 : wr.cell? ⟨w1.heap.size, 8, none⟩ = some (.int .u64 (0)) := hR.cel 8 (by decide)
        have k9 : wr.cell? ⟨w1.heap.size, 9, none⟩ = some (.int .u64 (0)) := hR.cel 9 (by decide)
        have k10 : wr.cell? ⟨w1.heap.size, 10, none⟩ = some (.int .u64 (0)) := hR.cel 10 (by decide)
        have k11 : wr.cell? ⟨w1.heap.size, 11, none⟩ = some (.int .u64 (0)) := hR.cel 11 (by decide)
        have k12 : wr.cell? ⟨w1.heap.size, 12, none⟩ = some (.int .u64 (0)) := hR.cel 12 (by decide)
        have k13 : wr.cell? ⟨w1.heap.size, 13, none⟩ = some (.int .u64 (0)) := hR.cel 13 (by decide)
        have k14 : wr.cell? ⟨w1.heap.size, 14, none⟩ = some (.int .u64 (0)) := hR.cel 14 (by decide)
        have k15 : wr.cell? ⟨w1.heap.size, 15, none⟩ = some (.int .u64 (0)) := hR.cel 15 (by decide)
        have k16 : wr.cell? ⟨w1.heap.size, 16, none⟩ = some (.int .u64 (0)) := hR.cel 16 (by decide)
        have k17 : wr.cell? ⟨w1.heap.size, 17, none⟩ = some (.int .u64 (0)) := hR.cel 17 (by decide)
        have k18 : wr.cell? ⟨w1.heap.size, 18, none⟩ = some (.int .u64 (0)) := hR.cel 18 (by decide)
        have k19 : wr.cell? ⟨w1.heap.size, 19, none⟩ = some (.int .u64 (0)) := hR.cel 19 (by decide)
        have f8 : wr.frozen? ⟨w1.heap.size, 8, none⟩ = false := hR.fro 8 (by decide)
        have f9 : wr.frozen? ⟨w1.heap.size, 9, none⟩ = false := hR.fro 9 (by decide)
        have f10 : wr.frozen? ⟨w1.heap.size, 10, none⟩ = false := hR.fro 10 (by decide)
        have f11 : wr.frozen? ⟨w1.heap.size, 11, none⟩ = false := hR.fro 11 (by decide)
        have hFj := hF 2
        have hq1 : 0 ≤ (F 2).tdiv 8 := Int.tdiv_nonneg hFj.1 (by decide)
        have hq2 : (F 2).tdiv 8 ≤ 100 := by rw [Int.tdiv_eq_ediv_of_nonneg hFj.1]; omega
        have hm1 := smF_bd hF 2
        have c7j := fun W hW => c7 2 W (by decide) hW
        have HR : Hid (SdW w w1.heap.size R 2 wr) := hR
        have HS : Hid (smF F 3 = smF F 2 + (F 2).tdiv 8) := rfl
        generalize smF F 2 = sm at *
        clear hR
        go_wp2_with (first
          | (go_at_call 7; refine (c7j _ bgo).mono ?_; rintro r w3 ⟨rfl, hb3⟩; obtain ⟨hc3, hf3⟩ := bcell hb3; have hz3_0 : w1.heap.size < w3.heap.size := lt_below hb3 ltg; have hl3_0 := Nat.le_of_lt hz3_0; have hA3 := bnext (w0 := w) bgo hb3; have hs3 := hA3.size; clear hb3))
        go_round
        case rel =>
          have hfr := HR.out.fro
          refine ⟨3, by decide, rfl, by rw [HS.out], bgo, by simp; omega, hs1, fun i hi => ?_, fun i hi => ?_⟩
          · have hor : i = 0 ∨ i = 1 ∨ i = 2 ∨ i = 3 ∨ i = 4 ∨ i = 5 ∨ i = 6 ∨ i = 7 ∨ i = 8 ∨ i = 9 ∨ i = 10 ∨ i = 11 ∨ i = 12 ∨ i = 13 ∨ i = 14 ∨ i = 15 ∨ i = 16 ∨ i = 17 ∨ i = 18 ∨ i = 19 := by omega
            rcases hor with rfl | rfl | rfl | rfl | rfl | rfl | rfl | rfl | rfl | rfl | rfl | rfl | rfl | rfl | rfl | rfl | rfl | rfl | rfl | rfl
            all_goals (show _ = some (Value.int IntKind.u64 (if _ then _ else _)); go_simp)
          · have hfi := hfr i hi
            clear hfr
            go_simp
        case measure => simp [intOf]
      · have k0 : wr.cell? ⟨w1.heap.size, 0, none⟩ = some (.int .u64 (W4 (R 0) 0)) := hR.cel 0 (by decide)
        have k1 : wr.cell? ⟨w1.heap.size, 1, none⟩ = some (.int .u64 (W4 (R 0) 1)) := hR.cel 1 (by decide)
        have k2 : wr.cell? ⟨w1.heap.size, 2, none⟩ = some (.int .u64 (W4 (R 0) 2)) := hR.cel 2 (by decide)
        have k3 : wr.cell? ⟨w1.heap.size, 3, none⟩ = some (.int .u64 (W4 (R 0) 3)) := hR.cel 3 (by decide)
        have k4 : wr.cell? ⟨w1.heap.size, 4, none⟩ = some (.int .u64 (W4 (R 1) 0)) := hR.cel 4 (by decide)
        have k5 : wr.cell? ⟨w1.heap.size, 5, none⟩ = some (.int .u64 (W4 (R 1) 1)) := hR.cel 5 (by decide)
        have k6 : wr.cell? ⟨w1.heap.size, 6, none⟩ = some (.int .u64 (W4 (R 1) 2)) := hR.cel 6 (by decide)
        have k7 : wr.cell? ⟨w1.heap.size, 7, none⟩ = some (.int .u64 (W4 (R 1) 3)) := hR.cel 7 (by decide)
        have k8 : wr.cell? ⟨w1.heap.size, 8, none⟩ = some (.int .u64 (W4 (R 2) 0)) := hR.cel 8 (by decide)
        have k9 : wr.cell? ⟨w1.heap.size, 9, none⟩ = some (.int .u64 (W4 (R 2) 1)) := hR.cel 9 (by decide)
        have k10 : wr.cell? ⟨w1.heap.size, 10, none⟩ = some (.int .u64 (W4 (R 2) 2)) := hR.cel 10 (by decide)
        have k11 : wr.cell? ⟨w1.heap.size, 11, none⟩ = some (.int .u64 (W4 (R 2) 3)) := hR.cel 11 (by decide)
        have k12 : wr.cell? ⟨w1.heap.size, 12, none⟩ = some (.int .u64 (0)) := hR.cel 12 (by decide)
        have k13 : wr.cell? ⟨w1.heap.size, 13, none⟩ = some (.int .u64 (0)) := hR.cel 13 (by decide)
        have k14 : wr.cell? ⟨w1.heap.size, 14, none⟩ = some (.int .u64 (0)) := hR.cel 14 (by decide)
        have k15 : wr.cell? ⟨w1.heap.size, 15, none⟩ = some (.int .u64 (0)) := hR.cel 15 (by decide)
        have k16 : wr.cell? ⟨w1.heap.size, 16, none⟩ = some (.int .u64 (0)) := hR.cel 16 (by decide)
        have k17 : wr.cell? ⟨w1.heap.size, 17, none⟩ = some (.int .u64 (0)) := hR.cel 17 (by decide)
        have k18 : wr.cell? ⟨w1.heap.size, 18, none⟩ = some (.int .u64 (0)) := hR.cel 18 (by decide)
        have k19 : wr.cell? ⟨w1.heap.size, 19, none⟩ = some (.int .u64 (0)) := hR.cel 19 (by decide)
        have f12 : wr.frozen? ⟨w1.heap.size, 12, none⟩ = false := hR.fro 12 (by decide)
        have f13 : wr.frozen? ⟨w1.heap.size, 13, none⟩ = false := hR.fro 13 (by decide)
        have f14 : wr.frozen? ⟨w1.heap.size, 14, none⟩ = false := hR.fro 14 (by decide)
        have f15 : wr.frozen? ⟨w1.heap.size, 15, none⟩ = false := hR.fro 15 (by decide)
        have hFj := hF 3
        have hq1 : 0 ≤ (F 3).tdiv 8 := Int.tdiv_nonneg hFj.1 (by decide)
        have hq2 : (F 3).tdiv 8 ≤ 100 := by rw [Int.tdiv_eq_ediv_of_nonneg hFj.1]; omega
        have hm1 := smF_bd hF 3
        have c7j := fun W hW => c7 3 W (by decide) hW
        have HR : Hid (SdW w w1.heap.size R 3 wr) := hR
        have HS : Hid (smF F 4 = smF F 3 + (F 3).tdiv 8) := rfl
        generalize smF F 3 = sm at *
        clear hR
        go_wp2_with (first
          | (go_at_call 7; refine (c7j _ bgo).mono ?_; rintro r w3 ⟨rfl, hb3⟩; obtain ⟨hc3, hf3⟩ := bcell hb3; have hz3_0 : w1.heap.size < w3.heap.size := lt_below hb3 ltg; have hl3_0 := Nat.le_of_lt hz3_0; have hA3 := bnext (w0 := w) bgo hb3; have hs3 := hA3.size; clear hb3))
        go_round
        case rel =>
          have hfr := HR.out.fro
          refine ⟨4, by decide, rfl, by rw [HS.out], bgo, by simp; omega, hs1, fun i hi => ?_, fun i hi => ?_⟩
          · have hor : i = 0 ∨ i = 1 ∨ i = 2 ∨ i = 3 ∨ i = 4 ∨ i = 5 ∨ i = 6 ∨ i = 7 ∨ i = 8 ∨ i = 9 ∨ i = 10 ∨ i = 11 ∨ i = 12 ∨ i = 13 ∨ i = 14 ∨ i = 15 ∨ i = 16 ∨ i = 17 ∨ i = 18 ∨ i = 19 := by omega
            rcases hor with rfl | rfl | rfl | rfl | rfl | rfl | rfl | rfl | rfl | rfl | rfl | rfl | rfl | rfl | rfl | rfl | rfl | rfl | rfl | rfl
            all_goals (show _ = some (Value.int IntKind.u64 (if _ then _ else _)); go_simp)
          · have hfi := hfr i hi
            clear hfr
            go_simp
        case measure => simp [intOf]
      · have k0 : wr.cell? ⟨w1.heap.size, 0, none⟩ = some (.int .u64 (W4 (R 0) 0)) := hR.cel 0 (by decide)
        have k1 : wr.cell? ⟨w1.heap.size, 1, none⟩ = some (.int .u64 (W4 (R 0) 1)) := hR.cel 1 (by decide)
        have k2 : wr.cell? ⟨w1.heap.size, 2, none⟩ = some (.int .u64 (W4 (R 0) 2)) := hR.cel 2 (by decide)
        have k3 : wr.cell? ⟨w1.heap.size, 3, none⟩ = some (.int .u64 (W4 (R 0) 3)) := hR.cel 3 (by decide)
        have k4 : wr.cell? ⟨w1.heap.size, 4, none⟩ = some (.int .u64 (W4 (R 1) 0)) := hR.cel 4 (by decide)
        have k5 : wr.cell? ⟨w1.heap.size, 5, none⟩ = some (.int .u64 (W4 (R 1) 1)) := hR.cel 5 (by decide)
        have k6 : wr.cell? ⟨w1.heap.size, 6, none⟩ = some (.int .u64 (W4 (R 1) 2)) := hR.cel 6 (by decide)
        have k7 : wr.cell? ⟨w1.heap.size, 7, none⟩ = some (.int .u64 (W4 (R 1) 3)) := hR.cel 7 (by decide)
        have k8 : wr.cell? ⟨w1.heap.size, 8, none⟩ = some (.int .u64 (W4 (R 2) 0)) := hR.cel 8 (by decide)
        have k9 : wr.cell? ⟨w1.heap.size, 9, none⟩ = some (.int .u64 (W4 (R 2) 1)) := hR.cel 9 (by decide)
        have k10 : wr.cell? ⟨w1.heap.size, 10, none⟩ = some (.int .u64 (W4 (R 2) 2)) := hR.cel 10 (by decide)
        have k11 : wr.cell? ⟨w1.heap.size, 11, none⟩ = some (.int .u64 (W4 (R 2) 3)) := hR.cel 11 (by decide)
        have k12 : wr.cell? ⟨w1.heap.size, 12, none⟩ = some (.int .u64 (W4 (R 3) 0)) := hR.cel 12 (by decide)
        have k13 : wr.cell? ⟨w1.heap.size, 13, none⟩ = some (.int .u64 (W4 (R 3) 1)) := hR.cel 13 (by decide)
        have k14 : wr.cell? ⟨w1.heap.size, 14, none⟩ = some (.int .u64 (W4 (R 3) 2)) := hR.cel 14 (by decide)
        have k15 : wr.cell? ⟨w1.heap.size, 15, none⟩ = some (.int .u64 (W4 (R 3) 3)) := hR.cel 15 (by decide)
        have k16 : wr.cell? ⟨w1.heap.size, 16, none⟩ = some (.int .u64 (0)) := hR.cel 16 (by decide)
        have k17 : wr.cell? ⟨w1.heap.size, 17, none⟩ = some (.int .u64 (0)) := hR.cel 17 (by decide)
        have k18 : wr.cell? ⟨w1.heap.size, 18, none⟩ = some (.int .u64 (0)) := hR.cel 18 (by decide)
        have k19 : wr.cell? ⟨w1.heap.size, 19, none⟩ = some (.int .u64 (0)) := hR.cel 19 (by decide)
        have f16 : wr.frozen? ⟨w1.heap.size, 16, none⟩ = false := hR.fro 16 (by decide)
        have f17 : wr.frozen? ⟨w1.heap.size, 17, none⟩ = false := hR.fro 17 (by decide)
        have f18 : wr.frozen? ⟨w1.heap.size, 18, none⟩ = false := hR.fro 18 (by decide)
        have f19 : wr.frozen? ⟨w1.heap.size, 19, none⟩ = false := hR.fro 19 (by decide)
        have hFj := hF 4
        have hq1 : 0 ≤ (F 4).tdiv 8 := Int.tdiv_nonneg hFj.1 (by decide)
        have hq2 : (F 4).tdiv 8 ≤ 100 := by rw [Int.tdiv_eq_ediv_of_nonneg hFj.1]; omega
        have hm1 := smF_bd hF 4
        have c7j := fun W hW => c7 4 W (by decide) hW
        have HR : Hid (SdW w w1.heap.size R 4 wr) := hR
        have HS : Hid (smF F 5 = smF F 4 + (F 4).tdiv 8) := rfl
        generalize smF F 4 = sm at *
        clear hR
        go_wp2_with (first
          | (go_at_call 7; refine (c7j _ bgo).mono ?_; rintro r w3 ⟨rfl, hb3⟩; obtain ⟨hc3, hf3⟩ := bcell hb3; have hz3_0 : w1.heap.size < w3.heap.size := lt_below hb3 ltg; have hl3_0 := Nat.le_of_lt hz3_0; have hA3 := bnext (w0 := w) bgo hb3; have hs3 := hA3.size; clear hb3))
        go_round
        case rel =>
          have hfr := HR.out.fro
          refine ⟨5, by decide, rfl, by rw [HS.out], bgo, by simp; omega, hs1, fun i hi => ?_, fun i hi => ?_⟩
          · have hor : i = 0 ∨ i = 1 ∨ i = 2 ∨ i = 3 ∨ i = 4 ∨ i = 5 ∨ i = 6 ∨ i = 7 ∨ i = 8 ∨ i = 9 ∨ i = 10 ∨ i = 11 ∨ i = 12 ∨ i = 13 ∨ i = 14 ∨ i = 15 ∨ i = 16 ∨ i = 17 ∨ i = 18 ∨ i = 19 := by omega
            rcases hor with rfl | rfl | rfl | rfl | rfl | rfl | rfl | rfl | rfl | rfl | rfl | rfl | rfl | rfl | rfl | rfl | rfl | rfl | rfl | rfl
            all_goals (show _ = some (Value.int IntKind.u64 (if _ then _ else _)); go_simp)
          · have hfi := hfr i hi
            clear hfr
            go_simp
        case measure => simp [intOf]
set_option maxHeartbeats 8000000 in
theorem sd_Bt (hsb : s = true) (bR : ∀ i, R i < 2 ^ 256) (hs5 : smF F 5 = 5) (hH : R 4 = R 3 + 1) (h2 : R 2 = R 3) (h0 : R 0 = R 3 ∨ R 0 = R 4) (h1 : R 1 = R 3 ∨ R 1 = R 4) :
    Calls Tryd.prog 3 #[.int .i64 n, .bool s, .slice a k c, .slice a' k' c', .int .i64 x] w fun r w' => r = .returned (.bool true) ∧ Below w.heap.size w w' := by
  subst hsb
  have HHH : Hid (R 4 = R 3 + 1 ∧ R 2 = R 3 ∧ (R 0 = R 3 ∨ R 0 = R 4) ∧ (R 1 = R 3 ∨ R 1 = R 4)) := ⟨hH, h2, h0, h1⟩
  clear hH h2 h0 h1
  have HS5 : Hid (smF F 5 = 5) := hs5
  clear hs5
  have c4 := awake6
  have hsm := cell_set_map
  unfold A4 at c7
  go_enter Tryd.func3, Tryd.ntmps3
  go_wp2_with (first
    | (go_at_call 4; refine (c4 _ (hT.go bgo)).mono ?_; rintro r w1 ⟨rfl, hb1⟩; obtain ⟨hc1, hf1⟩ := bcell hb1; have hA1 := bnext (w0 := w) bgo hb1; have hs1 := hA1.size; clear hb1)
    | (go_at_call 5; refine (c5 _).mono ?_; rintro r w2 ⟨rfl, rfl⟩)
    | (go_at_call 6; refine (c6 _ bgo).mono ?_; rintro r w2 ⟨rfl, rfl⟩))
  go_loopw [12, 41] (fun t12 t41 wr => ∃ j : Nat, j ≤ 5 ∧ t41 = .int .i64 (j : Int) ∧ t12 = .int .i64 (smF F j) ∧ SdW w w1.heap.size R j wr) (fun _ t41 _ => 5 - (intOf t41).toNat)
  case atStart =>
    have hz : ∀ i q, rwV R 0 i q = 0 := fun _ _ => if_neg (by omega)
    refine ⟨0, by decide, rfl, rfl, bgo, by simp, hs1, fun i hi => ?_, fun i hi => ?_⟩
    · rw [hz]
      have hor : i = 0 ∨ i = 1 ∨ i = 2 ∨ i = 3 ∨ i = 4 ∨ i = 5 ∨ i = 6 ∨ i = 7 ∨ i = 8 ∨ i = 9 ∨ i = 10 ∨ i = 11 ∨ i = 12 ∨ i = 13 ∨ i = 14 ∨ i = 15 ∨ i = 16 ∨ i = 17 ∨ i = 18 ∨ i = 19 := by omega
      rcases hor with rfl | rfl | rfl | rfl | rfl | rfl | rfl | rfl | rfl | rfl | rfl | rfl | rfl | rfl | rfl | rfl | rfl | rfl | rfl | rfl <;> go_simp
    · go_simp
  case round =>
    obtain ⟨j, hj, rfl, rfl, hR⟩ := hrel
    have hA0 := hR.bel
    have hl0 := hR.lt
    have hs0 := hA0.size
    by_cases h5 : j = 5
    · subst h5
      have kk : ∀ i, i < 20 → wr.cell? ⟨w1.heap.size, i, none⟩ = some (.int .u64 (W4 (R (i / 4)) (i % 4))) := fun i hi => by
        have := hR.cel i hi
        rw [show rwV R 5 (i / 4) (i % 4) = W4 (R (i / 4)) (i % 4) from if_pos (by omega)] at this
        exact this
      clear hR c7 c6 c5 c4
      rw [HS5.out]
      have k0 : wr.cell? ⟨w1.heap.size, 0, none⟩ = some (.int .u64 (W4 (R 0) 0)) := kk 0 (by decide)
      have k1 : wr.cell? ⟨w1.heap.size, 1, none⟩ = some (.int .u64 (W4 (R 0) 1)) := kk 1 (by decide)
      have k2 : wr.cell? ⟨w1.heap.size, 2, none⟩ = some (.int .u64 (W4 (R 0) 2)) := kk 2 (by decide)
      have k3 : wr.cell? ⟨w1.heap.size, 3, none⟩ = some (.int .u64 (W4 (R 0) 3)) := kk 3 (by decide)
      have k4 : wr.cell? ⟨w1.heap.size, 4, none⟩ = some (.int .u64 (W4 (R 1) 0)) := kk 4 (by decide)
      have k5 : wr.cell? ⟨w1.heap.size, 5, none⟩ = some (.int .u64 (W4 (R 1) 1)) := kk 5 (by decide)
      have k6 : wr.cell? ⟨w1.heap.size, 6, none⟩ = some (.int .u64 (W4 (R 1) 2)) := kk 6 (by decide)
      have k7 : wr.cell? ⟨w1.heap.size, 7, none⟩ = some (.int .u64 (W4 (R 1) 3)) := kk 7 (by decide)
      have k8 : wr.cell? ⟨w1.heap.size, 8, none⟩ = some (.int .u64 (W4 (R 2) 0)) := kk 8 (by decide)
      have k9 : wr.cell? ⟨w1.heap.size, 9, none⟩ = some (.int .u64 (W4 (R 2) 1)) := kk 9 (by decide)
      have k10 : wr.cell? ⟨w1.heap.size, 10, none⟩ = some (.int .u64 (W4 (R 2) 2)) := kk 10 (by decide)
      have k11 : wr.cell? ⟨w1.heap.size, 11, none⟩ = some (.int .u64 (W4 (R 2) 3)) := kk 11 (by decide)
      have k12 : wr.cell? ⟨w1.heap.size, 12, none⟩ = some (.int .u64 (W4 (R 3) 0)) := kk 12 (by decide)
      have k13 : wr.cell? ⟨w1.heap.size, 13, none⟩ = some (.int .u64 (W4 (R 3) 1)) := kk 13 (by decide)
      have k14 : wr.cell? ⟨w1.heap.size, 14, none⟩ = some (.int .u64 (W4 (R 3) 2)) := kk 14 (by decide)
      have k15 : wr.cell? ⟨w1.heap.size, 15, none⟩ = some (.int .u64 (W4 (R 3) 3)) := kk 15 (by decide)
      have k16 : wr.cell? ⟨w1.heap.size, 16, none⟩ = some (.int .u64 (W4 (R 4) 0)) := kk 16 (by decide)
      have k17 : wr.cell? ⟨w1.heap.size, 17, none⟩ = some (.int .u64 (W4 (R 4) 1)) := kk 17 (by decide)
      have k18 : wr.cell? ⟨w1.heap.size, 18, none⟩ = some (.int .u64 (W4 (R 4) 2)) := kk 18 (by decide)
      have k19 : wr.cell? ⟨w1.heap.size, 19, none⟩ = some (.int .u64 (W4 (R 4) 3)) := kk 19 (by decide)
      clear kk
      go_wp2
      refine reg18 (h11 := w1.heap.size) (X3 := R 3) (X4 := R 4) rfl rfl hl0 k12 k13 k14 k15 k16 k17 k18 k19 ?_
      intro a' w4 g h e17 e18 hne hg hh hBg hBh hsz' hdf hFr hb4
      have ha := act_of slots18 7 rfl hsz' hdf hFr
      rw [ha]
      simp only [slots18, List.foldl_cons, List.foldl_nil, Act.put, List.setIfInBounds_toArray, List.set_cons_succ, List.set_cons_zero, e17, e18]
      generalize slot a' 71 = s71
      generalize slot a' 72 = s72
      generalize slot a' 73 = s73
      generalize slot a' 74 = s74
      generalize slot a' 100 = s100
      clear ha e17 e18 hsz' hdf hFr
      replace k0 := (hb4.cell (p := ⟨w1.heap.size, 0, none⟩) hl0).trans k0
      replace k1 := (hb4.cell (p := ⟨w1.heap.size, 1, none⟩) hl0).trans k1
      replace k2 := (hb4.cell (p := ⟨w1.heap.size, 2, none⟩) hl0).trans k2
      replace k3 := (hb4.cell (p := ⟨w1.heap.size, 3, none⟩) hl0).trans k3
      replace k4 := (hb4.cell (p := ⟨w1.heap.size, 4, none⟩) hl0).trans k4
      replace k5 := (hb4.cell (p := ⟨w1.heap.size, 5, none⟩) hl0).trans k5
      replace k6 := (hb4.cell (p := ⟨w1.heap.size, 6, none⟩) hl0).trans k6
      replace k7 := (hb4.cell (p := ⟨w1.heap.size, 7, none⟩) hl0).trans k7
      replace k8 := (hb4.cell (p := ⟨w1.heap.size, 8, none⟩) hl0).trans k8
      replace k9 := (hb4.cell (p := ⟨w1.heap.size, 9, none⟩) hl0).trans k9
      replace k10 := (hb4.cell (p := ⟨w1.heap.size, 10, none⟩) hl0).trans k10
      replace k11 := (hb4.cell (p := ⟨w1.heap.size, 11, none⟩) hl0).trans k11
      clear k12 k13 k14 k15 k16 k17 k18 k19
      have hl4 : w1.heap.size < w4.heap.size := Nat.lt_of_lt_of_le hl0 hb4.size
      have hA4 := bnext (w0 := w) hA0 hb4
      have hs4 := hA4.size
      have hg1 : w1.heap.size ≠ g := by omega
      have hg2 : w1.heap.size ≠ h := by omega
      have hgw : w.heap.size ≤ g := by omega
      have hhw : w.heap.size ≤ h := by omega
      clear hb4
      have cg := hBg
      have ch := hBh
      obtain ⟨g0, g1, g2, g3, g4, g5, g6, g7, g8⟩ := cg
      obtain ⟨i0, i1, i2, i3, i4, i5, i6, i7, i8⟩ := ch
      go_wp2
      clear g0 g1 g2 g3 g4 g5 g6 g7 g8 i0 i1 i2 i3 i4 i5 i6 i7 i8
      have hBl : B4 g (R 3) (put4B (put4B w4 g (R 3)) h (R 4)) := hBg.put.other hne
      have hBu : B4 h (R 4) (put4B (put4B w4 g (R 3)) h (R 4)) := (hBh.other (fun e => hne e.symm)).put
      have hA5 : Below w.heap.size w (put4B (put4B w4 g (R 3)) h (R 4)) := put4B_below (put4B_below hA4 hgw) hhw
      replace k0 : (put4B (put4B w4 g (R 3)) h (R 4)).cell? ⟨w1.heap.size, 0, none⟩ = some (.int .u64 (W4 (R 0) 0)) := (put4B_cell hg2).trans ((put4B_cell hg1).trans k0)
      replace k1 : (put4B (put4B w4 g (R 3)) h (R 4)).cell? ⟨w1.heap.size, 1, none⟩ = some (.int .u64 (W4 (R 0) 1)) := (put4B_cell hg2).trans ((put4B_cell hg1).trans k1)
      replace k2 : (put4B (put4B w4 g (R 3)) h (R 4)).cell? ⟨w1.heap.size, 2, none⟩ = some (.int .u64 (W4 (R 0) 2)) := (put4B_cell hg2).trans ((put4B_cell hg1).trans k2)
      replace k3 : (put4B (put4B w4 g (R 3)) h (R 4)).cell? ⟨w1.heap.size, 3, none⟩ = some (.int .u64 (W4 (R 0) 3)) := (put4B_cell hg2).trans ((put4B_cell hg1).trans k3)
      replace k4 : (put4B (put4B w4 g (R 3)) h (R 4)).cell? ⟨w1.heap.size, 4, none⟩ = some (.int .u64 (W4 (R 1) 0)) := (put4B_cell hg2).trans ((put4B_cell hg1).trans k4)
      replace k5 : (put4B (put4B w4 g (R 3)) h (R 4)).cell? ⟨w1.heap.size, 5, none⟩ = some (.int .u64 (W4 (R 1) 1)) := (put4B_cell hg2).trans ((put4B_cell hg1).trans k5)
      replace k6 : (put4B (put4B w4 g (R 3)) h (R 4)).cell? ⟨w1.heap.size, 6, none⟩ = some (.int .u64 (W4 (R 1) 2)) := (put4B_cell hg2).trans ((put4B_cell hg1).trans k6)
      replace k7 : (put4B (put4B w4 g (R 3)) h (R 4)).cell? ⟨w1.heap.size, 7, none⟩ = some (.int .u64 (W4 (R 1) 3)) := (put4B_cell hg2).trans ((put4B_cell hg1).trans k7)
      replace k8 : (put4B (put4B w4 g (R 3)) h (R 4)).cell? ⟨w1.heap.size, 8, none⟩ = some (.int .u64 (W4 (R 2) 0)) := (put4B_cell hg2).trans ((put4B_cell hg1).trans k8)
      replace k9 : (put4B (put4B w4 g (R 3)) h (R 4)).cell? ⟨w1.heap.size, 9, none⟩ = some (.int .u64 (W4 (R 2) 1)) := (put4B_cell hg2).trans ((put4B_cell hg1).trans k9)
      replace k10 : (put4B (put4B w4 g (R 3)) h (R 4)).cell? ⟨w1.heap.size, 10, none⟩ = some (.int .u64 (W4 (R 2) 2)) := (put4B_cell hg2).trans ((put4B_cell hg1).trans k10)
      replace k11 : (put4B (put4B w4 g (R 3)) h (R 4)).cell? ⟨w1.heap.size, 11, none⟩ = some (.int .u64 (W4 (R 2) 3)) := (put4B_cell hg2).trans ((put4B_cell hg1).trans k11)
      have hl5 : w1.heap.size < (put4B (put4B w4 g (R 3)) h (R 4)).heap.size := by rw [put4B_size, put4B_size]; exact hl4
      change Code.wp _ _ _ _ (put4B (put4B w4 g (R 3)) h (R 4))
      generalize (put4B (put4B w4 g (R 3)) h (R 4)) = w5 at *
      clear hBg hBh
      obtain ⟨hH, h2, h0, h1⟩ := HHH.out
      have bl := bR 3
      have bu := bR 4
      have hle : R 3 ≤ R 4 := by omega
      clear hH h2 h0 h1
      refine reg21 (g := g) (h := h) (K := 8) (X := R 4 - R 3) rfl rfl rfl (fun W hW => rless_nt (by decide) (by decide) (NVB bu (hBu.next hW)) (NVB bl (hBl.next hW)) hle) ?_
      intro a'' w6 u e19 hu hsz' hdf hFr hb6
      have ha := act_of slotsA21 4 rfl hsz' hdf hFr
      rw [ha]
      simp only [slotsA21, List.foldl_cons, List.foldl_nil, Act.put, List.setIfInBounds_toArray, List.set_cons_succ, List.set_cons_zero, e19]
      generalize slot a'' 78 = r78
      generalize slot a'' 79 = r79
      generalize slot a'' 80 = r80
      clear ha e19 hsz' hdf hFr
      replace k0 := (hb6.cell (p := ⟨w1.heap.size, 0, none⟩) hl5).trans k0
      replace k1 := (hb6.cell (p := ⟨w1.heap.size, 1, none⟩) hl5).trans k1
      replace k2 := (hb6.cell (p := ⟨w1.heap.size, 2, none⟩) hl5).trans k2
      replace k3 := (hb6.cell (p := ⟨w1.heap.size, 3, none⟩) hl5).trans k3
      replace k4 := (hb6.cell (p := ⟨w1.heap.size, 4, none⟩) hl5).trans k4
      replace k5 := (hb6.cell (p := ⟨w1.heap.size, 5, none⟩) hl5).trans k5
      replace k6 := (hb6.cell (p := ⟨w1.heap.size, 6, none⟩) hl5).trans k6
      replace k7 := (hb6.cell (p := ⟨w1.heap.size, 7, none⟩) hl5).trans k7
      replace k8 := (hb6.cell (p := ⟨w1.heap.size, 8, none⟩) hl5).trans k8
      replace k9 := (hb6.cell (p := ⟨w1.heap.size, 9, none⟩) hl5).trans k9
      replace k10 := (hb6.cell (p := ⟨w1.heap.size, 10, none⟩) hl5).trans k10
      replace k11 := (hb6.cell (p := ⟨w1.heap.size, 11, none⟩) hl5).trans k11
      replace hBl := hBl.next hb6
      replace hBu := hBu.next hb6
      have hl6 : w1.heap.size < w6.heap.size := Nat.lt_of_lt_of_le hl5 hb6.size
      have hA6 := bnext (w0 := w) hA5 hb6
      clear hb6
      obtain ⟨hH, h2, h0, h1⟩ := HHH.out
      have e1 : R 4 - R 3 = 1 := by omega
      rw [e1] at hu
      clear e1
      have c9 : ∀ W, Below w6.heap.size w6 W → Calls Tryd.prog 9 #[.slice (some ⟨h, 0, none⟩) 4 4, .slice (some ⟨g, 0, none⟩) 4 4] W fun e w' => e = .returned (.int .i64 1) ∧ Below W.heap.size W w' := fun W hW => by
        have := rcmp_nv (by decide) (by decide) (NVB bu (hBu.next hW)) (NVB bl (hBl.next hW))
        rw [show sgn ((R 4 : Nat) : Int) (R 3 : Nat) = 1 from by rcases sgn_ways ((R 4 : Nat) : Int) (R 3 : Nat) with ⟨h, _⟩ | ⟨h, _⟩ | ⟨_, h⟩ <;> first | exact h | omega] at this
        exact this.mono fun e w' ⟨h1, h2⟩ => ⟨h1, h2 ▸ Below.refl _ _⟩
      have c10 : ∀ W v v', Below w6.heap.size w6 W → NT 8 1 v W → NT 1 1 v' W → Calls Tryd.prog 10 #[v, v'] W fun e w' => e = .returned (.bool true) ∧ Below W.heap.size W w' := fun W v v' hW hv hv' =>
        (rsame_nt1 hv hv').mono fun e w' ⟨h1, h2⟩ => ⟨h1, h2 ▸ Below.refl _ _⟩
      clear hH h2 h0 h1 hle
      go_wp2
      obtain ⟨hH, h2, h0, h1⟩ := HHH.out
      by_cases z0 : R 0 = R 3
      · by_cases z1 : R 1 = R 3
        · refine reg24tt (h11 := w1.heap.size) (g := g) (h := h) (X0 := R 0) (X1 := R 1) (X2 := R 2) (XL := R 3) (XH := R 4) (K1 := 8) rfl rfl rfl rfl rfl hu hl6 k0 k1 k2 k3 k4 k5 k6 k7 k8 k9 k10 k11 hBl hBu (bR 0) (bR 1) (bR 2) bl bu (decide_eq_true h2) (decide_eq_true z0) (decide_eq_true z1) c9 c10 ?_
          intro af wf e10 hsz' hdf hbf
          go_wp2
          refine bodyPost_ret (v := .bool true) ?_ hdf ⟨rfl, bnext (w0 := w) hA6 hbf⟩
          unfold slot at e10
          rw [Array.getElem?_eq_getElem (by omega)] at e10
          simp only [results, Tryd.results3]
          go_simp
        · refine reg24tf (h11 := w1.heap.size) (g := g) (h := h) (X0 := R 0) (X1 := R 1) (X2 := R 2) (XL := R 3) (XH := R 4) (K1 := 8) rfl rfl rfl rfl rfl hu hl6 k0 k1 k2 k3 k4 k5 k6 k7 k8 k9 k10 k11 hBl hBu (bR 0) (bR 1) (bR 2) bl bu (decide_eq_true h2) (decide_eq_true z0) (decide_eq_false z1) (decide_eq_true (h1.resolve_left z1)) c9 c10 ?_
          intro af wf e10 hsz' hdf hbf
          go_wp2
          refine bodyPost_ret (v := .bool true) ?_ hdf ⟨rfl, bnext (w0 := w) hA6 hbf⟩
          unfold slot at e10
          rw [Array.getElem?_eq_getElem (by omega)] at e10
          simp only [results, Tryd.results3]
          go_simp
      · by_cases z1 : R 1 = R 3
        · refine reg24ft (h11 := w1.heap.size) (g := g) (h := h) (X0 := R 0) (X1 := R 1) (X2 := R 2) (XL := R 3) (XH := R 4) (K1 := 8) rfl rfl rfl rfl rfl hu hl6 k0 k1 k2 k3 k4 k5 k6 k7 k8 k9 k10 k11 hBl hBu (bR 0) (bR 1) (bR 2) bl bu (decide_eq_true h2) (decide_eq_false z0) (decide_eq_true z1) (decide_eq_true (h0.resolve_left z0)) c9 c10 ?_
          intro af wf e10 hsz' hdf hbf
          go_wp2
          refine bodyPost_ret (v := .bool true) ?_ hdf ⟨rfl, bnext (w0 := w) hA6 hbf⟩
          unfold slot at e10
          rw [Array.getElem?_eq_getElem (by omega)] at e10
          simp only [results, Tryd.results3]
          go_simp
        · refine reg24ff (h11 := w1.heap.size) (g := g) (h := h) (X0 := R 0) (X1 := R 1) (X2 := R 2) (XL := R 3) (XH := R 4) (K1 := 8) rfl rfl rfl rfl rfl hu hl6 k0 k1 k2 k3 k4 k5 k6 k7 k8 k9 k10 k11 hBl hBu (bR 0) (bR 1) (bR 2) bl bu (decide_eq_true h2) (decide_eq_false z0) (decide_eq_false z1) (decide_eq_true (h0.resolve_left z0)) (decide_eq_true (h1.resolve_left z1)) c9 c10 ?_
          intro af wf e10 hsz' hdf hbf
          go_wp2
          refine bodyPost_ret (v := .bool true) ?_ hdf ⟨rfl, bnext (w0 := w) hA6 hbf⟩
          unfold slot at e10
          rw [Array.getElem?_eq_getElem (by omega)] at e10
          simp only [results, Tryd.results3]
          go_simp
    · have hor : j = 0 ∨ j = 1 ∨ j = 2 ∨ j = 3 ∨ j = 4 := by omega
      rcases hor with rfl | rfl | rfl | rfl | rfl
      · have k0 : wr.cell? ⟨w1.heap.size, 0, none⟩ = some (.int .u64 (0)) := hR.cel 0 (by decide)
        have k1 : wr.cell? ⟨w1.heap.size, 1, none⟩ = some (.int .u64 (0)) := hR.cel 1 (by decide)
        have k2 : wr.cell? ⟨w1.heap.size, 2, none⟩ = some (.int .u64 (0)) := hR.cel 2 (by decide)
        have k3 : wr.cell? ⟨w1.heap.size, 3, none⟩ = some (.int .u64 (0)) := hR.cel 3 (by decide)
        have k4 : wr.cell? ⟨w1.heap.size, 4, none⟩ = some (.int .u64 (0)) := hR.cel 4 (by decide)
        have k5 : wr.cell? ⟨w1.heap.size, 5, none⟩ = some (.int .u64 (0)) := hR.cel 5 (by decide)
        have k6 : wr.cell? ⟨w1.heap.size, 6, none⟩ = some (.int .u64 (0)) := hR.cel 6 (by decide)
        have k7 : wr.cell? ⟨w1.heap.size, 7, none⟩ = some (.int .u64 (0)) := hR.cel 7 (by decide)
        have k8 : wr.cell? ⟨w1.heap.size, 8, none⟩ = some (.int .u64 (0)) := hR.cel 8 (by decide)
        have k9 : wr.cell? ⟨w1.heap.size, 9, none⟩ = some (.int .u64 (0)) := hR.cel 9 (by decide)
        have k10 : wr.cell? ⟨w1.heap.size, 10, none⟩ = some (.int .u64 (0)) := hR.cel 10 (by decide)
        have k11 : wr.cell? ⟨w1.heap.size, 11, none⟩ = some (.int .u64 (0)) := hR.cel 11 (by decide)
        have k12 : wr.cell? ⟨w1.heap.size, 12, none⟩ = some (.int .u64 (0)) := hR.cel 12 (by decide)
        have k13 : wr.cell? ⟨w1.heap.size, 13, none⟩ = some (.int .u64 (0)) := hR.cel 13 (by decide)
        have k14 : wr.cell? ⟨w1.heap.size, 14, none⟩ = some (.int .u64 (0)) := hR.cel 14 (by decide)
        have k15 : wr.cell? ⟨w1.heap.size, 15, none⟩ = some (.int .u64 (0)) := hR.cel 15 (by decide)
        have k16 : wr.cell? ⟨w1.heap.size, 16, none⟩ = some (.int .u64 (0)) := hR.cel 16 (by decide)
        have k17 : wr.cell? ⟨w1.heap.size, 17, none⟩ = some (.int .u64 (0)) := hR.cel 17 (by decide)
        have k18 : wr.cell? ⟨w1.heap.size, 18, none⟩ = some (.int .u64 (0)) := hR.cel 18 (by decide)
        have k19 : wr.cell? ⟨w1.heap.size, 19, none⟩ = some (.int .u64 (0)) := hR.cel 19 (by decide)
        have f0 : wr.frozen? ⟨w1.heap.size, 0, none⟩ = false := hR.fro 0 (by decide)
        have f1 : wr.frozen? ⟨w1.heap.size, 1, none⟩ = false := hR.fro 1 (by decide)
        have f2 : wr.frozen? ⟨w1.heap.size, 2, none⟩ = false := hR.fro 2 (by decide)
        have f3 : wr.frozen? ⟨w1.heap.size, 3, none⟩ = false := hR.fro 3 (by decide)
        have hFj := hF 0
        have hq1 : 0 ≤ (F 0).tdiv 8 := Int.tdiv_nonneg hFj.1 (by decide)
        have hq2 : (F 0).tdiv 8 ≤ 100 := by rw [Int.tdiv_eq_ediv_of_nonneg hFj.1]; omega
        have hm1 := smF_bd hF 0
        have c7j := fun W hW => c7 0 W (by decide) hW
        have HR : Hid (SdW w w1.heap.size R 0 wr) := hR
        have HS : Hid (smF F 1 = smF F 0 + (F 0).tdiv 8) := rfl
        generalize smF F 0 = sm at *
        clear hR
        go_wp2_with (first
          | (go_at_call 7; refine (c7j _ bgo).mono ?_; rintro r w3 ⟨rfl, hb3⟩; obtain ⟨hc3, hf3⟩ := bcell hb3; have hz3_0 : w1.heap.size < w3.heap.size := lt_below hb3 ltg; have hl3_0 := Nat.le_of_lt hz3_0; have hA3 := bnext (w0 := w) bgo hb3; have hs3 := hA3.size; clear hb3))
        go_round
        case rel =>
          have hfr := HR.out.fro
          refine ⟨1, by decide, rfl, by rw [HS.out], bgo, by simp; omega, hs1, fun i hi => ?_, fun i hi => ?_⟩
          · have hor : i = 0 ∨ i = 1 ∨ i = 2 ∨ i = 3 ∨ i = 4 ∨ i = 5 ∨ i = 6 ∨ i = 7 ∨ i = 8 ∨ i = 9 ∨ i = 10 ∨ i = 11 ∨ i = 12 ∨ i = 13 ∨ i = 14 ∨ i = 15 ∨ i = 16 ∨ i = 17 ∨ i = 18 ∨ i = 19 := by omega
            rcases hor with rfl | rfl | rfl | rfl | rfl | rfl | rfl | rfl | rfl | rfl | rfl | rfl | rfl | rfl | rfl | rfl | rfl | rfl | rfl | rfl
            all_goals (show _ = some (Value.int IntKind.u64 (if _ then _ else _)); go_simp)
          · have hfi := hfr i hi
            clear hfr
            go_simp
        case measure => simp [intOf]
      · have k0 : wr.cell? ⟨w1.heap.size, 0, none⟩ = some (.int .u64 (W4 (R 0) 0)) := hR.cel 0 (by decide)
        have k1 : wr.cell? ⟨w1.heap.size, 1, none⟩ = some (.int .u64 (W4 (R 0) 1)) := hR.cel 1 (by decide)
        have k2 : wr.cell? ⟨w1.heap.size, 2, none⟩ = some (.int .u64 (W4 (R 0) 2)) := hR.cel 2 (by decide)
        have k3 : wr.cell? ⟨w1.heap.size, 3, none⟩ = some (.int .u64 (W4 (R 0) 3)) := hR.cel 3 (by decide)
        have k4 : wr.cell? ⟨w1.heap.size, 4, none⟩ = some (.int .u64 (0)) := hR.cel 4 (by decide)
        have k5 : wr.cell? ⟨w1.heap.size, 5, none⟩ = some (.int .u64 (0)) := hR.cel 5 (by decide)
        have k6 : wr.cell? ⟨w1.heap.size, 6, none⟩ = some (.int .u64 (0)) := hR.cel 6 (by decide)
        have k7 : wr.cell? ⟨w1.heap.size, 7, none⟩ = some (.int .u64 (0)) := hR.cel 7 (by decide)
        have k8 : wr.cell? ⟨w1.heap.size, 8, none⟩ = some (.int .u64 (0)) := hR.cel 8 (by decide)
        have k9 : wr.cell? ⟨w1.heap.size, 9, none⟩ = some (.int .u64 (0)) := hR.cel 9 (by decide)
        have k10 : wr.cell? ⟨w1.heap.size, 10, none⟩ = some (.int .u64 (0)) := hR.cel 10 (by decide)
        have k11 : wr.cell? ⟨w1.heap.size, 11, none⟩ = some (.int .u64 (0)) := hR.cel 11 (by decide)
        have k12 : wr.cell? ⟨w1.heap.size, 12, none⟩ = some (.int .u64 (0)) := hR.cel 12 (by decide)
        have k13 : wr.cell? ⟨w1.heap.size, 13, none⟩ = some (.int .u64 (0)) := hR.cel 13 (by decide)
        have k14 : wr.cell? ⟨w1.heap.size, 14, none⟩ = some (.int .u64 (0)) := hR.cel 14 (by decide)
        have k15 : wr.cell? ⟨w1.heap.size, 15, none⟩ = some (.int .u64 (0)) := hR.cel 15 (by decide)
        have k16 : wr.cell? ⟨w1.heap.size, 16, none⟩ = some (.int .u64 (0)) := hR.cel 16 (by decide)
        have k17 : wr.cell? ⟨w1.heap.size, 17, none⟩ = some (.int .u64 (0)) := hR.cel 17 (by decide)
        have k18 : wr.cell? ⟨w1.heap.size, 18, none⟩ = some (.int .u64 (0)) := hR.cel 18 (by decide)
        have k19 : wr.cell? ⟨w1.heap.size, 19, none⟩ = some (.int .u64 (0)) := hR.cel 19 (by decide)
        have f4 : wr.frozen? ⟨w1.heap.size, 4, none⟩ = false := hR.fro 4 (by decide)
        have f5 : wr.frozen? ⟨w1.heap.size, 5, none⟩ = false := hR.fro 5 (by decide)
        have f6 : wr.frozen? ⟨w1.heap.size, 6, none⟩ = false := hR.fro 6 (by decide)
        have f7 : wr.frozen? ⟨w1.heap.size, 7, none⟩ = false := hR.fro 7 (by decide)
        have hFj := hF 1
        have hq1 : 0 ≤ (F 1).tdiv 8 := Int.tdiv_nonneg hFj.1 (by decide)
        have hq2 : (F 1).tdiv 8 ≤ 100 := by rw [Int.tdiv_eq_ediv_of_nonneg hFj.1]; omega
        have hm1 := smF_bd hF 1
        have c7j := fun W hW => c7 1 W (by decide) hW
        have HR : Hid (SdW w w1.heap.size R 1 wr) := hR
        have HS : Hid (smF F 2 = smF F 1 + (F 1).tdiv 8) := rfl
        generalize smF F 1 = sm at *
        clear hR
        go_wp2_with (first
          | (go_at_call 7; refine (c7j _ bgo).mono ?_; rintro r w3 ⟨rfl, hb3⟩; obtain ⟨hc3, hf3⟩ := bcell hb3; have hz3_0 : w1.heap.size < w3.heap.size := lt_below hb3 ltg; have hl3_0 := Nat.le_of_lt hz3_0; have hA3 := bnext (w0 := w) bgo hb3; have hs3 := hA3.size; clear hb3))
        go_round
        case rel =>
          have hfr := HR.out.fro
          refine ⟨2, by decide, rfl, by rw [HS.out], bgo, by simp; omega, hs1, fun i hi => ?_, fun i hi => ?_⟩
          · have hor : i = 0 ∨ i = 1 ∨ i = 2 ∨ i = 3 ∨ i = 4 ∨ i = 5 ∨ i = 6 ∨ i = 7 ∨ i = 8 ∨ i = 9 ∨ i = 10 ∨ i = 11 ∨ i = 12 ∨ i = 13 ∨ i = 14 ∨ i = 15 ∨ i = 16 ∨ i = 17 ∨ i = 18 ∨ i = 19 := by omega
            rcases hor with rfl | rfl | rfl | rfl | rfl | rfl | rfl | rfl | rfl | rfl | rfl | rfl | rfl | rfl | rfl | rfl | rfl | rfl | rfl | rfl
            all_goals (show _ = some (Value.int IntKind.u64 (if _ then _ else _)); go_simp)
          · have hfi := hfr i hi
            clear hfr
            go_simp
        case measure => simp [intOf]
      · have k0 : wr.cell? ⟨w1.heap.size, 0, none⟩ = some (.int .u64 (W4 (R 0) 0)) := hR.cel 0 (by decide)
        have k1 : wr.cell? ⟨w1.heap.size, 1, none⟩ = some (.int .u64 (W4 (R 0) 1)) := hR.cel 1 (by decide)
        have k2 : wr.cell? ⟨w1.heap.size, 2, none⟩ = some (.int .u64 (W4 (R 0) 2)) := hR.cel 2 (by decide)
        have k3 : wr.cell? ⟨w1.heap.size, 3, none⟩ = some (.int .u64 (W4 (R 0) 3)) := hR.cel 3 (by decide)
        have k4 : wr.cell? ⟨w1.heap.size, 4, none⟩ = some (.int .u64 (W4 (R 1) 0)) := hR.cel 4 (by decide)
        have k5 : wr.cell? ⟨w1.heap.size, 5, none⟩ = some (.int .u64 (W4 (R 1) 1)) := hR.cel 5 (by decide)
        have k6 : wr.cell? ⟨w1.heap.size, 6, none⟩ = some (.int .u64 (W4 (R 1) 2)) := hR.cel 6 (by decide)
        have k7 : wr.cell? ⟨w1.heap.size, 7, none⟩ = some (.int .u64 (W4 (R 1) 3)) := hR.cel 7 (by decide)
        have k8 : wr.cell? ⟨w1.heap.size, 8, none⟩ = some (.int .u64 (0)) := hR.cel 8 (by decide)
        have k9 : wr.cell? ⟨w1.heap.size, 9, none⟩ = some (.int .u64 (0)) := hR.cel 9 (by decide)
        have k10 : wr.cell? ⟨w1.heap.size, 10, none⟩ = some (.int .u64 (0)) := hR.cel 10 (by decide)
        have k11 : wr.cell? ⟨w1.heap.size, 11, none⟩ = some (.int .u64 (0)) := hR.cel 11 (by decide)
        have k12 : wr.cell? ⟨w1.heap.size, 12, none⟩ = some (.int .u64 (0)) := hR.cel 12 (by decide)
        have k13 : wr.cell? ⟨w1.heap.size, 13, none⟩ = some (.int .u64 (0)) := hR.cel 13 (by decide)
        have k14 : wr.cell? ⟨w1.heap.size, 14, none⟩ = some (.int .u64 (0)) := hR.cel 14 (by decide)
        have k15 : wr.cell? ⟨w1.heap.size, 15, none⟩ = some (.int .u64 (0)) := hR.cel 15 (by decide)
        have k16 : wr.cell? ⟨w1.heap.size, 16, none⟩ = some (.int .u64 (0)) := hR.cel 16 (by decide)
        have k17 : wr.cell? ⟨w1.heap.size, 17, none⟩ = some (.int .u64 (0)) := hR.cel 17 (by decide)
        have k18 : wr.cell? ⟨w1.heap.size, 18, none⟩ = some (.int .u64 (0)) := hR.cel 18 (by decide)
        have k19 : wr.cell? ⟨w1.heap.size, 19, none⟩ = some (.int .u64 (0)) := hR.cel 19 (by decide)
        have f8 : wr.frozen? ⟨w1.heap.size, 8, none⟩ = false := hR.fro 8 (by decide)
        have f9 : wr.frozen? ⟨w1.heap.size, 9, none⟩ = false := hR.fro 9 (by decide)
        have f10 : wr.frozen? ⟨w1.heap.size, 10, none⟩ = false := hR.fro 10 (by decide)
        have f11 : wr.frozen? ⟨w1.heap.size, 11, none⟩ = false := hR.fro 11 (by decide)
        have hFj := hF 2
        have hq1 : 0 ≤ (F 2).tdiv 8 := Int.tdiv_nonneg hFj.1 (by decide)
        have hq2 : (F 2).tdiv 8 ≤ 100 := by rw [Int.tdiv_eq_ediv_of_nonneg hFj.1]; omega
        have hm1 := smF_bd hF 2
        have c7j := fun W hW => c7 2 W (by decide) hW
        have HR : Hid (SdW w w1.heap.size R 2 wr) := hR
        have HS : Hid (smF F 3 = smF F 2 + (F 2).tdiv 8) := rfl
        generalize smF F 2 = sm at *
        clear hR
        go_wp2_with (first
          | (go_at_call 7; refine (c7j _ bgo).mono ?_; rintro r w3 ⟨rfl, hb3⟩; obtain ⟨hc3, hf3⟩ := bcell hb3; have hz3_0 : w1.heap.size < w3.heap.size := lt_below hb3 ltg; have hl3_0 := Nat.le_of_lt hz3_0; have hA3 := bnext (w0 := w) bgo hb3; have hs3 := hA3.size; clear hb3))
        go_round
        case rel =>
          have hfr := HR.out.fro
          refine ⟨3, by decide, rfl, by rw [HS.out], bgo, by simp; omega, hs1, fun i hi => ?_, fun i hi => ?_⟩
          · have hor : i = 0 ∨ i = 1 ∨ i = 2 ∨ i = 3 ∨ i = 4 ∨ i = 5 ∨ i = 6 ∨ i = 7 ∨ i = 8 ∨ i = 9 ∨ i = 10 ∨ i = 11 ∨ i = 12 ∨ i = 13 ∨ i = 14 ∨ i = 15 ∨ i = 16 ∨ i = 17 ∨ i = 18 ∨ i = 19 := by omega
            rcases hor with rfl | rfl | rfl | rfl | rfl | rfl | rfl | rfl | rfl | rfl | rfl | rfl | rfl | rfl | rfl | rfl | rfl | rfl | rfl | rfl
            all_goals (show _ = some (Value.int IntKind.u64 (if _ then _ else _)); go_simp)
          · have hfi := hfr i hi
            clear hfr
            go_simp
        case measure => simp [intOf]
      · have k0 : wr.cell? ⟨w1.heap.size, 0, none⟩ = some (.int .u64 (W4 (R 0) 0)) := hR.cel 0 (by decide)
        have k1 : wr.cell? ⟨w1.heap.size, 1, none⟩ = some (.int .u64 (W4 (R 0) 1)) := hR.cel 1 (by decide)
        have k2 : wr.cell? ⟨w1.heap.size, 2, none⟩ = some (.int .u64 (W4 (R 0) 2)) := hR.cel 2 (by decide)
        have k3 : wr.cell? ⟨w1.heap.size, 3, none⟩ = some (.int .u64 (W4 (R 0) 3)) := hR.cel 3 (by decide)
        have k4 : wr.cell? ⟨w1.heap.size, 4, none⟩ = some (.int .u64 (W4 (R 1) 0)) := hR.cel 4 (by decide)
        have k5 : wr.cell? ⟨w1.heap.size, 5, none⟩ = some (.int .u64 (W4 (R 1) 1)) := hR.cel 5 (by decide)
        have k6 : wr.cell? ⟨w1.heap.size, 6, none⟩ = some (.int .u64 (W4 (R 1) 2)) := hR.cel 6 (by decide)
        have k7 : wr.cell? ⟨w1.heap.size, 7, none⟩ = some (.int .u64 (W4 (R 1) 3)) := hR.cel 7 (by decide)
        have k8 : wr.cell? ⟨w1.heap.size, 8, none⟩ = some (.int .u64 (W4 (R 2) 0)) := hR.cel 8 (by decide)
        have k9 : wr.cell? ⟨w1.heap.size, 9, none⟩ = some (.int .u64 (W4 (R 2) 1)) := hR.cel 9 (by decide)
        have k10 : wr.cell? ⟨w1.heap.size, 10, none⟩ = some (.int .u64 (W4 (R 2) 2)) := hR.cel 10 (by decide)
        have k11 : wr.cell? ⟨w1.heap.size, 11, none⟩ = some (.int .u64 (W4 (R 2) 3)) := hR.cel 11 (by decide)
        have k12 : wr.cell? ⟨w1.heap.size, 12, none⟩ = some (.int .u64 (0)) := hR.cel 12 (by decide)
        have k13 : wr.cell? ⟨w1.heap.size, 13, none⟩ = some (.int .u64 (0)) := hR.cel 13 (by decide)
        have k14 : wr.cell? ⟨w1.heap.size, 14, none⟩ = some (.int .u64 (0)) := hR.cel 14 (by decide)
        have k15 : wr.cell? ⟨w1.heap.size, 15, none⟩ = some (.int .u64 (0)) := hR.cel 15 (by decide)
        have k16 : wr.cell? ⟨w1.heap.size, 16, none⟩ = some (.int .u64 (0)) := hR.cel 16 (by decide)
        have k17 : wr.cell? ⟨w1.heap.size, 17, none⟩ = some (.int .u64 (0)) := hR.cel 17 (by decide)
        have k18 : wr.cell? ⟨w1.heap.size, 18, none⟩ = some (.int .u64 (0)) := hR.cel 18 (by decide)
        have k19 : wr.cell? ⟨w1.heap.size, 19, none⟩ = some (.int .u64 (0)) := hR.cel 19 (by decide)
        have f12 : wr.frozen? ⟨w1.heap.size, 12, none⟩ = false := hR.fro 12 (by decide)
        have f13 : wr.frozen? ⟨w1.heap.size, 13, none⟩ = false := hR.fro 13 (by decide)
        have f14 : wr.frozen? ⟨w1.heap.size, 14, none⟩ = false := hR.fro 14 (by decide)
        have f15 : wr.frozen? ⟨w1.heap.size, 15, none⟩ = false := hR.fro 15 (by decide)
        have hFj := hF 3
        have hq1 : 0 ≤ (F 3).tdiv 8 := Int.tdiv_nonneg hFj.1 (by decide)
        have hq2 : (F 3).tdiv 8 ≤ 100 := by rw [Int.tdiv_eq_ediv_of_nonneg hFj.1]; omega
        have hm1 := smF_bd hF 3
        have c7j := fun W hW => c7 3 W (by decide) hW
        have HR : Hid (SdW w w1.heap.size R 3 wr) := hR
        have HS : Hid (smF F 4 = smF F 3 + (F 3).tdiv 8) := rfl
        generalize smF F 3 = sm at *
        clear hR
        go_wp2_with (first
          | (go_at_call 7; refine (c7j _ bgo).mono ?_; rintro r w3 ⟨rfl, hb3⟩; obtain ⟨hc3, hf3⟩ := bcell hb3; have hz3_0 : w1.heap.size < w3.heap.size := lt_below hb3 ltg; have hl3_0 := Nat.le_of_lt hz3_0; have hA3 := bnext (w0 := w) bgo hb3; have hs3 := hA3.size; clear hb3))
        go_round
        case rel =>
          have hfr := HR.out.fro
          refine ⟨4, by decide, rfl, by rw [HS.out], bgo, by simp; omega, hs1, fun i hi => ?_, fun i hi => ?_⟩
          · have hor : i = 0 ∨ i = 1 ∨ i = 2 ∨ i = 3 ∨ i = 4 ∨ i = 5 ∨ i = 6 ∨ i = 7 ∨ i = 8 ∨ i = 9 ∨ i = 10 ∨ i = 11 ∨ i = 12 ∨ i = 13 ∨ i = 14 ∨ i = 15 ∨ i = 16 ∨ i = 17 ∨ i = 18 ∨ i = 19 := by omega
            rcases hor with rfl | rfl | rfl | rfl | rfl | rfl | rfl | rfl | rfl | rfl | rfl | rfl | rfl | rfl | rfl | rfl | rfl | rfl | rfl | rfl
            all_goals (show _ = some (Value.int IntKind.u64 (if _ then _ else _)); go_simp)
          · have hfi := hfr i hi
            clear hfr
            go_simp
        case measure => simp [intOf]
      · have k0 : wr.cell? ⟨w1.heap.size, 0, none⟩ = some (.int .u64 (W4 (R 0) 0)) := hR.cel 0 (by decide)
        have k1 : wr.cell? ⟨w1.heap.size, 1, none⟩ = some (.int .u64 (W4 (R 0) 1)) := hR.cel 1 (by decide)
        have k2 : wr.cell? ⟨w1.heap.size, 2, none⟩ = some (.int .u64 (W4 (R 0) 2)) := hR.cel 2 (by decide)
        have k3 : wr.cell? ⟨w1.heap.size, 3, none⟩ = some (.int .u64 (W4 (R 0) 3)) := hR.cel 3 (by decide)
        have k4 : wr.cell? ⟨w1.heap.size, 4, none⟩ = some (.int .u64 (W4 (R 1) 0)) := hR.cel 4 (by decide)
        have k5 : wr.cell? ⟨w1.heap.size, 5, none⟩ = some (.int .u64 (W4 (R 1) 1)) := hR.cel 5 (by decide)
        have k6 : wr.cell? ⟨w1.heap.size, 6, none⟩ = some (.int .u64 (W4 (R 1) 2)) := hR.cel 6 (by decide)
        have k7 : wr.cell? ⟨w1.heap.size, 7, none⟩ = some (.int .u64 (W4 (R 1) 3)) := hR.cel 7 (by decide)
        have k8 : wr.cell? ⟨w1.heap.size, 8, none⟩ = some (.int .u64 (W4 (R 2) 0)) := hR.cel 8 (by decide)
        have k9 : wr.cell? ⟨w1.heap.size, 9, none⟩ = some (.int .u64 (W4 (R 2) 1)) := hR.cel 9 (by decide)
        have k10 : wr.cell? ⟨w1.heap.size, 10, none⟩ = some (.int .u64 (W4 (R 2) 2)) := hR.cel 10 (by decide)
        have k11 : wr.cell? ⟨w1.heap.size, 11, none⟩ = some (.int .u64 (W4 (R 2) 3)) := hR.cel 11 (by decide)
        have k12 : wr.cell? ⟨w1.heap.size, 12, none⟩ = some (.int .u64 (W4 (R 3) 0)) := hR.cel 12 (by decide)
        have k13 : wr.cell? ⟨w1.heap.size, 13, none⟩ = some (.int .u64 (W4 (R 3) 1)) := hR.cel 13 (by decide)
        have k14 : wr.cell? ⟨w1.heap.size, 14, none⟩ = some (.int .u64 (W4 (R 3) 2)) := hR.cel 14 (by decide)
        have k15 : wr.cell? ⟨w1.heap.size, 15, none⟩ = some (.int .u64 (W4 (R 3) 3)) := hR.cel 15 (by decide)
        have k16 : wr.cell? ⟨w1.heap.size, 16, none⟩ = some (.int .u64 (0)) := hR.cel 16 (by decide)
        have k17 : wr.cell? ⟨w1.heap.size, 17, none⟩ = some (.int .u64 (0)) := hR.cel 17 (by decide)
        have k18 : wr.cell? ⟨w1.heap.size, 18, none⟩ = some (.int .u64 (0)) := hR.cel 18 (by decide)
        have k19 : wr.cell? ⟨w1.heap.size, 19, none⟩ = some (.int .u64 (0)) := hR.cel 19 (by decide)
        have f16 : wr.frozen? ⟨w1.heap.size, 16, none⟩ = false := hR.fro 16 (by decide)
        have f17 : wr.frozen? ⟨w1.heap.size, 17, none⟩ = false := hR.fro 17 (by decide)
        have f18 : wr.frozen? ⟨w1.heap.size, 18, none⟩ = false := hR.fro 18 (by decide)
        have f19 : wr.frozen? ⟨w1.heap.size, 19, none⟩ = false := hR.fro 19 (by decide)
        have hFj := hF 4
        have hq1 : 0 ≤ (F 4).tdiv 8 := Int.tdiv_nonneg hFj.1 (by decide)
        have hq2 : (F 4).tdiv 8 ≤ 100 := by rw [Int.tdiv_eq_ediv_of_nonneg hFj.1]; omega
        have hm1 := smF_bd hF 4
        have c7j := fun W hW => c7 4 W (by decide) hW
        have HR : Hid (SdW w w1.heap.size R 4 wr) := hR
        have HS : Hid (smF F 5 = smF F 4 + (F 4).tdiv 8) := rfl
        generalize smF F 4 = sm at *
        clear hR
        go_wp2_with (first
          | (go_at_call 7; refine (c7j _ bgo).mono ?_; rintro r w3 ⟨rfl, hb3⟩; obtain ⟨hc3, hf3⟩ := bcell hb3; have hz3_0 : w1.heap.size < w3.heap.size := lt_below hb3 ltg; have hl3_0 := Nat.le_of_lt hz3_0; have hA3 := bnext (w0 := w) bgo hb3; have hs3 := hA3.size; clear hb3))
        go_round
        case rel =>
          have hfr := HR.out.fro
          refine ⟨5, by decide, rfl, by rw [HS.out], bgo, by simp; omega, hs1, fun i hi => ?_, fun i hi => ?_⟩
          · have hor : i = 0 ∨ i = 1 ∨ i = 2 ∨ i = 3 ∨ i = 4 ∨ i = 5 ∨ i = 6 ∨ i = 7 ∨ i = 8 ∨ i = 9 ∨ i = 10 ∨ i = 11 ∨ i = 12 ∨ i = 13 ∨ i = 14 ∨ i = 15 ∨ i = 16 ∨ i = 17 ∨ i = 18 ∨ i = 19 := by omega
            rcases hor with rfl | rfl | rfl | rfl | rfl | rfl | rfl | rfl | rfl | rfl | rfl | rfl | rfl | rfl | rfl | rfl | rfl | rfl | rfl | rfl
            all_goals (show _ = some (Value.int IntKind.u64 (if _ then _ else _)); go_simp)
          · have hfi := hfr i hi
            clear hfr
            go_simp
        case measure => simp [intOf]
end
end Go.Proofs.YtpfnfaekgaipjaaDoor
