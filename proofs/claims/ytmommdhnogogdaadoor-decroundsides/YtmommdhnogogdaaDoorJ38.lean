/-
  Texts that the proof leans on, joined: Ei.
-/
import Derived.Test.YtmommdhnogogdaaDoorJ37
import Derived.Test.YtmommdhnogogdaaDoorJ1
set_option linter.unusedVariables false
set_option linter.unusedSectionVars false
set_option linter.unusedSimpArgs false
set_option maxRecDepth 20000
namespace Go.Proofs.YtmommdhnogogdaaDoor
open Go.RowKit
attribute [local irreducible] W4 Nt NT
/-- how many of the first were inexact -/
def smD (F : Nat → Int) : Nat → Int
  | 0 => 0
  | j + 1 => smD F j + (F j).tdiv 8
theorem smD_bd {F : Nat → Int} (hF : ∀ i, 0 ≤ F i ∧ F i ≤ 100) : ∀ j : Nat, 0 ≤ smD F j ∧ smD F j ≤ 100 * j
  | 0 => ⟨Int.le_refl _, Int.le_refl _⟩
  | j + 1 => by
    obtain ⟨h1, h2⟩ := smD_bd hF j
    have h3 := hF j
    have h4 : (F j).tdiv 8 = F j / 8 := Int.tdiv_eq_ediv_of_nonneg h3.1
    show 0 ≤ smD F j + (F j).tdiv 8 ∧ smD F j + (F j).tdiv 8 ≤ 100 * ((j + 1 : Nat) : Int)
    rw [h4]
    omega
/-- a field of a datum, and of none -/
def dcl (v : Dat) (q : Nat) : Value := if q = 0 then .int .i64 v.c else if q = 1 then .bool v.s else if q = 2 then .bool v.g else if q = 3 then .int .i64 v.x else .int .u64 (W4 v.k (q - 4))
def dcz (q : Nat) : Value := if q = 0 then .int .i64 0 else if q = 1 then .bool false else if q = 2 then .bool false else if q = 3 then .int .i64 0 else .int .u64 0
def rwD (R : Nat → Dat) (j i q : Nat) : Value := if i < j then dcl (R i) q else dcz q
/-- the first j of the five data lie in the array -/
structure DdW (w : World) (g : Nat) (R : Nat → Dat) (j : Nat) (wr : World) : Prop where
  bel : Below w.heap.size w wr
  lt : g < wr.heap.size
  ge : w.heap.size ≤ g
  cel : ∀ i, i < 40 → wr.cell? ⟨g, i, none⟩ = some (rwD R j (i / 8) (i % 8))
  fro : ∀ i, i < 40 → wr.frozen? ⟨g, i, none⟩ = false
theorem D8.cells {g : Nat} {c x : Int} {s b : Bool} {k : Nat} {w : World} (h : D8 g (dvc c s b x k) w) : w.cell? ⟨g, 0, none⟩ = some (.int .i64 c) ∧ w.cell? ⟨g, 1, none⟩ = some (.bool s) ∧ w.cell? ⟨g, 2, none⟩ = some (.bool b) ∧ w.cell? ⟨g, 3, none⟩ = some (.int .i64 x) ∧ w.cell? ⟨g, 4, none⟩ = some (.int .u64 (W4 k 0)) ∧ w.cell? ⟨g, 5, none⟩ = some (.int .u64 (W4 k 1)) ∧ w.cell? ⟨g, 6, none⟩ = some (.int .u64 (W4 k 2)) ∧ w.cell? ⟨g, 7, none⟩ = some (.int .u64 (W4 k 3)) :=
  ⟨h.2.2.1 0 (by decide), h.2.2.1 1 (by decide), h.2.2.1 2 (by decide), h.2.2.1 3 (by decide), h.2.2.1 4 (by decide), h.2.2.1 5 (by decide), h.2.2.1 6 (by decide), h.2.2.1 7 (by decide)⟩
theorem W4_injD {u v : Nat} (hu : u < 2 ^ 256) (hv : v < 2 ^ 256) (h0 : W4 u 0 = W4 v 0) (h1 : W4 u 1 = W4 v 1) (h2 : W4 u 2 = W4 v 2) (h3 : W4 u 3 = W4 v 3) : u = v := by
  have e1 := W4_val4 hu
  have e2 := W4_val4 hv
  have e : val (W4 u) 4 = val (W4 v) 4 := by simp only [val, h0, h1, h2, h3]
  omega
/-- two data are alike as structs just if they are alike -/
theorem dat_eqT {u v : Dat} (e : u = v) (w : World) :
    Sem.run Tryd.prog (Op.equalIn 10000 30 (.agg #[.int .i64 u.c, .bool u.s, .bool u.g, .int .i64 u.x, .int .u64 (W4 u.k 0), .int .u64 (W4 u.k 1), .int .u64 (W4 u.k 2), .int .u64 (W4 u.k 3)]) (.agg #[.int .i64 v.c, .bool v.s, .bool v.g, .int .i64 v.x, .int .u64 (W4 v.k 0), .int .u64 (W4 v.k 1), .int .u64 (W4 v.k 2), .int .u64 (W4 v.k 3)])) w = .ok true w := by
  subst e
  rw [eq27, decide_eq_true ⟨rfl, rfl, rfl, rfl, rfl, rfl, rfl, rfl⟩]
theorem dat_eqF {u v : Dat} (hu : u.k < 2 ^ 256) (hv : v.k < 2 ^ 256) (e : u ≠ v) (w : World) :
    Sem.run Tryd.prog (Op.equalIn 10000 30 (.agg #[.int .i64 u.c, .bool u.s, .bool u.g, .int .i64 u.x, .int .u64 (W4 u.k 0), .int .u64 (W4 u.k 1), .int .u64 (W4 u.k 2), .int .u64 (W4 u.k 3)]) (.agg #[.int .i64 v.c, .bool v.s, .bool v.g, .int .i64 v.x, .int .u64 (W4 v.k 0), .int .u64 (W4 v.k 1), .int .u64 (W4 v.k 2), .int .u64 (W4 v.k 3)])) w = .ok false w := by
  rw [eq27, decide_eq_false]
  rintro ⟨h1, h2, h3, h4, h5, h6, h7, h8⟩
  have hk : u.k = v.k := W4_injD hu hv h5 h6 h7 h8
  apply e
  cases u; cases v
  simp only at h1 h2 h3 h4 hk
  subst h1 h2 h3 h4 hk
  rfl
section
variable (TT : World → Prop) (hTT : ∀ w w', TT w → Below w.heap.size w w' → TT w')
variable (n x : Int) (s : Bool) (an ad : Option Addr) (kn cn kd cd : Nat) (w : World) (hT : TT w)
  (c9 : ∀ W, TT W → Calls Tryd.prog 7 #[] W fun r w' => r = .returned (.bool true) ∧ Below W.heap.size W w')
  (h1 : ¬ (60 : Int) < (kn : Int)) (h2 : ¬ (60 : Int) < (kd : Int)) (c5 : ∀ W, Calls Tryd.prog 10 #[.int .i64 n] W fun r w' => r = .returned (.bool true) ∧ W = w')
  (sz : Int) (hsz : (sz == 0) = false)
  (c6 : ∀ W, Below w.heap.size w W → Calls Tryd.prog 11 #[.slice ad kd cd] W fun r w' => r = .returned (.int .i64 sz) ∧ W = w')
  (R : Nat → Dat) (F : Nat → Int) (hF : ∀ i, 0 ≤ F i ∧ F i ≤ 100) (hk : ∀ i, (R i).k < 2 ^ 256)
  (c7 : ∀ (i : Nat) W, i < 5 → TT W → Below w.heap.size w W → Calls Tryd.prog 8 #[.int .i64 n, .int .i64 (i : Int), .bool s, .slice an kn cn, .slice ad kd cd, .int .i64 x, .int .i64 0] W fun r w' => r = .returned (.tuple #[.agg #[.int .i64 (R i).c, .bool (R i).s, .bool (R i).g, .int .i64 (R i).x, .int .u64 (W4 (R i).k 0), .int .u64 (W4 (R i).k 1), .int .u64 (W4 (R i).k 2), .int .u64 (W4 (R i).k 3)], .int .i64 (F i), .int .i64 0]) ∧ Below W.heap.size W w')
include hTT hT c9 h1 h2 c5 hsz c6 hF hk c7
set_option maxHeartbeats 8000000 in
theorem dsd_Af (hsb : s = false) (X : Dat) (hX : X.k < 2 ^ 256) (hall : ∀ i, i < 5 → R i = X) (hs5 : smD F 5 = 0) :
    Calls Tryd.prog 4 #[.int .i64 n, .bool s, .slice an kn cn, .slice ad kd cd, .int .i64 x] w fun r w' => r = .returned (.bool true) ∧ Below w.heap.size w w' := by
  subst hsb
  have HALL : Hid (∀ i, i < 5 → R i = X) := hall
  clear hall
  have HS5 : Hid (smD F 5 = 0) := hs5
  clear hs5
  have HT0 : Hid (TT w) := hT
  have hsm := cell_set_map
  go_enter Tryd.func4, Tryd.ntmps4
  go_wp2_with (first
    | (go_at_call 7; refine (c9 _ hT).mono ?_; rintro r w1 ⟨rfl, hb1⟩; obtain ⟨hc1, hf1⟩ := bcell hb1; have hA1 := bnext (w0 := w) bgo hb1; have hs1 := hA1.size; clear hb1)
    | (go_at_call 10; refine (c5 _).mono ?_; rintro r w2 ⟨rfl, rfl⟩)
    | (go_at_call 11; refine (c6 _ bgo).mono ?_; rintro r w2 ⟨rfl, rfl⟩))
  go_loopw [12, 42] (fun t12 t42 wr => ∃ j : Nat, j ≤ 5 ∧ t42 = .int .i64 (j : Int) ∧ t12 = .int .i64 (smD F j) ∧ DdW w w1.heap.size R j wr) (fun _ t42 _ => 5 - (intOf t42).toNat)
  case atStart =>
    refine ⟨0, by decide, rfl, rfl, bgo, by simp, hs1, fun i hi => ?_, fun i hi => ?_⟩
    · rw [show rwD R 0 (i / 8) (i % 8) = dcz (i % 8) from if_neg (by omega)]
      have hor : i = 0 ∨ i = 1 ∨ i = 2 ∨ i = 3 ∨ i = 4 ∨ i = 5 ∨ i = 6 ∨ i = 7 ∨ i = 8 ∨ i = 9 ∨ i = 10 ∨ i = 11 ∨ i = 12 ∨ i = 13 ∨ i = 14 ∨ i = 15 ∨ i = 16 ∨ i = 17 ∨ i = 18 ∨ i = 19 ∨ i = 20 ∨ i = 21 ∨ i = 22 ∨ i = 23 ∨ i = 24 ∨ i = 25 ∨ i = 26 ∨ i = 27 ∨ i = 28 ∨ i = 29 ∨ i = 30 ∨ i = 31 ∨ i = 32 ∨ i = 33 ∨ i = 34 ∨ i = 35 ∨ i = 36 ∨ i = 37 ∨ i = 38 ∨ i = 39 := by omega
      rcases hor with rfl | rfl | rfl | rfl | rfl | rfl | rfl | rfl | rfl | rfl | rfl | rfl | rfl | rfl | rfl | rfl | rfl | rfl | rfl | rfl | rfl | rfl | rfl | rfl | rfl | rfl | rfl | rfl | rfl | rfl | rfl | rfl | rfl | rfl | rfl | rfl | rfl | rfl | rfl | rfl
      · show _ = some (.int .i64 0 : Value); go_simp
      · show _ = some (.bool false : Value); go_simp
      · show _ = some (.bool false : Value); go_simp
      · show _ = some (.int .i64 0 : Value); go_simp
      · show _ = some (.int .u64 0 : Value); go_simp
      · show _ = some (.int .u64 0 : Value); go_simp
      · show _ = some (.int .u64 0 : Value); go_simp
      · show _ = some (.int .u64 0 : Value); go_simp
      · show _ = some (.int .i64 0 : Value); go_simp
      · show _ = some (.bool false : Value); go_simp
      · show _ = some (.bool false : Value); go_simp
      · show _ = some (.int .i64 0 : Value); go_simp
      · show _ = some (.int .u64 0 : Value); go_simp
      · show _ = some (.int .u64 0 : Value); go_simp
      · show _ = some (.int .u64 0 : Value); go_simp
      · show _ = some (.int .u64 0 : Value); go_simp
      · show _ = some (.int .i64 0 : Value); go_simp
      · show _ = some (.bool false : Value); go_simp
      · show _ = some (.bool false : Value); go_simp
      · show _ = some (.int .i64 0 : Value); go_simp
      · show _ = some (.int .u64 0 : Value); go_simp
      · show _ = some (.int .u64 0 : Value); go_simp
      · show _ = some (.int .u64 0 : Value); go_simp
      · show _ = some (.int .u64 0 : Value); go_simp
      · show _ = some (.int .i64 0 : Value); go_simp
      · show _ = some (.bool false : Value); go_simp
      · show _ = some (.bool false : Value); go_simp
      · show _ = some (.int .i64 0 : Value); go_simp
      · show _ = some (.int .u64 0 : Value); go_simp
      · show _ = some (.int .u64 0 : Value); go_simp
      · show _ = some (.int .u64 0 : Value); go_simp
      · show _ = some (.int .u64 0 : Value); go_simp
      · show _ = some (.int .i64 0 : Value); go_simp
      · show _ = some (.bool false : Value); go_simp
      · show _ = some (.bool false : Value); go_simp
      · show _ = some (.int .i64 0 : Value); go_simp
      · show _ = some (.int .u64 0 : Value); go_simp
      · show _ = some (.int .u64 0 : Value); go_simp
      · show _ = some (.int .u64 0 : Value); go_simp
      · show _ = some (.int .u64 0 : Value); go_simp
    · go_simp
  case round =>
    obtain ⟨j, hj, rfl, rfl, hR⟩ := hrel
    have hA0 := hR.bel
    have hl0 := hR.lt
    have hs0 := hA0.size
    by_cases h5 : j = 5
    · subst h5
      have kk : ∀ i, i < 40 → wr.cell? ⟨w1.heap.size, i, none⟩ = some (dcl (R (i / 8)) (i % 8)) := fun i hi => by
        have := hR.cel i hi
        rw [show rwD R 5 (i / 8) (i % 8) = dcl (R (i / 8)) (i % 8) from if_pos (by omega)] at this
        exact this
      clear hR c7 c6 c5 c9
      rw [HS5.out]
      have k0 : wr.cell? ⟨w1.heap.size, 0, none⟩ = some (.int .i64 (R 0).c) := kk 0 (by decide)
      have k1 : wr.cell? ⟨w1.heap.size, 1, none⟩ = some (.bool (R 0).s) := kk 1 (by decide)
      have k2 : wr.cell? ⟨w1.heap.size, 2, none⟩ = some (.bool (R 0).g) := kk 2 (by decide)
      have k3 : wr.cell? ⟨w1.heap.size, 3, none⟩ = some (.int .i64 (R 0).x) := kk 3 (by decide)
      have k4 : wr.cell? ⟨w1.heap.size, 4, none⟩ = some (.int .u64 (W4 (R 0).k 0)) := kk 4 (by decide)
      have k5 : wr.cell? ⟨w1.heap.size, 5, none⟩ = some (.int .u64 (W4 (R 0).k 1)) := kk 5 (by decide)
      have k6 : wr.cell? ⟨w1.heap.size, 6, none⟩ = some (.int .u64 (W4 (R 0).k 2)) := kk 6 (by decide)
      have k7 : wr.cell? ⟨w1.heap.size, 7, none⟩ = some (.int .u64 (W4 (R 0).k 3)) := kk 7 (by decide)
      have k8 : wr.cell? ⟨w1.heap.size, 8, none⟩ = some (.int .i64 (R 1).c) := kk 8 (by decide)
      have k9 : wr.cell? ⟨w1.heap.size, 9, none⟩ = some (.bool (R 1).s) := kk 9 (by decide)
      have k10 : wr.cell? ⟨w1.heap.size, 10, none⟩ = some (.bool (R 1).g) := kk 10 (by decide)
      have k11 : wr.cell? ⟨w1.heap.size, 11, none⟩ = some (.int .i64 (R 1).x) := kk 11 (by decide)
      have k12 : wr.cell? ⟨w1.heap.size, 12, none⟩ = some (.int .u64 (W4 (R 1).k 0)) := kk 12 (by decide)
      have k13 : wr.cell? ⟨w1.heap.size, 13, none⟩ = some (.int .u64 (W4 (R 1).k 1)) := kk 13 (by decide)
      have k14 : wr.cell? ⟨w1.heap.size, 14, none⟩ = some (.int .u64 (W4 (R 1).k 2)) := kk 14 (by decide)
      have k15 : wr.cell? ⟨w1.heap.size, 15, none⟩ = some (.int .u64 (W4 (R 1).k 3)) := kk 15 (by decide)
      have k16 : wr.cell? ⟨w1.heap.size, 16, none⟩ = some (.int .i64 (R 2).c) := kk 16 (by decide)
      have k17 : wr.cell? ⟨w1.heap.size, 17, none⟩ = some (.bool (R 2).s) := kk 17 (by decide)
      have k18 : wr.cell? ⟨w1.heap.size, 18, none⟩ = some (.bool (R 2).g) := kk 18 (by decide)
      have k19 : wr.cell? ⟨w1.heap.size, 19, none⟩ = some (.int .i64 (R 2).x) := kk 19 (by decide)
      have k20 : wr.cell? ⟨w1.heap.size, 20, none⟩ = some (.int .u64 (W4 (R 2).k 0)) := kk 20 (by decide)
      have k21 : wr.cell? ⟨w1.heap.size, 21, none⟩ = some (.int .u64 (W4 (R 2).k 1)) := kk 21 (by decide)
      have k22 : wr.cell? ⟨w1.heap.size, 22, none⟩ = some (.int .u64 (W4 (R 2).k 2)) := kk 22 (by decide)
      have k23 : wr.cell? ⟨w1.heap.size, 23, none⟩ = some (.int .u64 (W4 (R 2).k 3)) := kk 23 (by decide)
      have q3 : D8at w1.heap.size 24 (R 3).c (R 3).s (R 3).g (R 3).x (R 3).k wr := fun i hi => by
        have hor : i = 0 ∨ i = 1 ∨ i = 2 ∨ i = 3 ∨ i = 4 ∨ i = 5 ∨ i = 6 ∨ i = 7 := by omega
        rcases hor with rfl | rfl | rfl | rfl | rfl | rfl | rfl | rfl
        · exact kk 24 (by decide)
        · exact kk 25 (by decide)
        · exact kk 26 (by decide)
        · exact kk 27 (by decide)
        · exact kk 28 (by decide)
        · exact kk 29 (by decide)
        · exact kk 30 (by decide)
        · exact kk 31 (by decide)
      have q4 : D8at w1.heap.size 32 (R 4).c (R 4).s (R 4).g (R 4).x (R 4).k wr := fun i hi => by
        have hor : i = 0 ∨ i = 1 ∨ i = 2 ∨ i = 3 ∨ i = 4 ∨ i = 5 ∨ i = 6 ∨ i = 7 := by omega
        rcases hor with rfl | rfl | rfl | rfl | rfl | rfl | rfl | rfl
        · exact kk 32 (by decide)
        · exact kk 33 (by decide)
        · exact kk 34 (by decide)
        · exact kk 35 (by decide)
        · exact kk 36 (by decide)
        · exact kk 37 (by decide)
        · exact kk 38 (by decide)
        · exact kk 39 (by decide)
      clear kk
      go_wp2
      refine regS14 (h11 := w1.heap.size) rfl rfl hl0 q4 q3 ?_
      clear q3 q4
      intro a' w4 g h e17 e18 hne hg hh hD1 hD2 hsz' hdf hFr hb4
      have ha := act_of slotsS14 7 rfl hsz' hdf hFr
      rw [ha]
      simp only [slotsS14, List.foldl_cons, List.foldl_nil, Act.put, List.setIfInBounds_toArray, List.set_cons_succ, List.set_cons_zero, e17, e18]
      generalize slot a' 66 = s66
      generalize slot a' 67 = s67
      generalize slot a' 68 = s68
      generalize slot a' 69 = s69
      generalize slot a' 100 = s100
      clear ha e17 e18 hsz' hdf hFr
      replace k0 := (hb4.cell (p := ⟨w1.heap.size, 0, none⟩) hl0).trans k0
      replace k1 := (hb4.cell (p := ⟨w1.heap.size, 1, none⟩) hl0).trans k1
      replace k2 := (hb4.cell (p := ⟨w1.heap.size, 2, none⟩) hl0).trans k2
      replace k3 := (hb4.cell (p := ⟨w1.heap.size, 3, none⟩) hl0).trans k3
      replace k4 := (hb4.cell (p := ⟨w1.heap.size, 4, none⟩) hl0).trans k4
      replace k5 := (hb4.cell (p := ⟨w1.heap.size, 5, none⟩) hl0).trans k5
      replace k6 := (hb4.cell (p := ⟨w1.heap.size, 6, none⟩) hl0).trans k6
      replace k7 := (hb4.cell (p := ⟨w1.heap.size, 7, none⟩) hl0).trans k7
      replace k8 := (hb4.cell (p := ⟨w1.heap.size, 8, none⟩) hl0).trans k8
      replace k9 := (hb4.cell (p := ⟨w1.heap.size, 9, none⟩) hl0).trans k9
      replace k10 := (hb4.cell (p := ⟨w1.heap.size, 10, none⟩) hl0).trans k10
      replace k11 := (hb4.cell (p := ⟨w1.heap.size, 11, none⟩) hl0).trans k11
      replace k12 := (hb4.cell (p := ⟨w1.heap.size, 12, none⟩) hl0).trans k12
      replace k13 := (hb4.cell (p := ⟨w1.heap.size, 13, none⟩) hl0).trans k13
      replace k14 := (hb4.cell (p := ⟨w1.heap.size, 14, none⟩) hl0).trans k14
      replace k15 := (hb4.cell (p := ⟨w1.heap.size, 15, none⟩) hl0).trans k15
      replace k16 := (hb4.cell (p := ⟨w1.heap.size, 16, none⟩) hl0).trans k16
      replace k17 := (hb4.cell (p := ⟨w1.heap.size, 17, none⟩) hl0).trans k17
      replace k18 := (hb4.cell (p := ⟨w1.heap.size, 18, none⟩) hl0).trans k18
      replace k19 := (hb4.cell (p := ⟨w1.heap.size, 19, none⟩) hl0).trans k19
      replace k20 := (hb4.cell (p := ⟨w1.heap.size, 20, none⟩) hl0).trans k20
      replace k21 := (hb4.cell (p := ⟨w1.heap.size, 21, none⟩) hl0).trans k21
      replace k22 := (hb4.cell (p := ⟨w1.heap.size, 22, none⟩) hl0).trans k22
      replace k23 := (hb4.cell (p := ⟨w1.heap.size, 23, none⟩) hl0).trans k23
      have hl4 : w1.heap.size < w4.heap.size := Nat.lt_of_lt_of_le hl0 hb4.size
      have hA4 := bnext (w0 := w) hA0 hb4
      have hs4 := hA4.size
      have hg1 : w1.heap.size ≠ g := by omega
      have hg2 : w1.heap.size ≠ h := by omega
      have hgw : w.heap.size ≤ g := by omega
      have hhw : w.heap.size ≤ h := by omega
      clear hb4
      have hBl := hD1
      have hBu := hD2
      have hA5 := hA4
      clear hD1 hD2
      clear hg hh hg1 hg2 hgw hhw
      have hall := HALL.out
      rw [hall 4 (by decide)] at hBl
      rw [hall 3 (by decide)] at hBu
      rw [hall 0 (by decide)] at k0 k1 k2 k3 k4 k5 k6 k7
      rw [hall 1 (by decide)] at k8 k9 k10 k11 k12 k13 k14 k15
      rw [hall 2 (by decide)] at k16 k17 k18 k19 k20 k21 k22 k23
      have hself := dat_eqT (rfl : X = X)
      obtain ⟨g0, g1, g2, g3, g4, g5, g6, g7⟩ := hBl.cells
      obtain ⟨i0, i1, i2, i3, i4, i5, i6, i7⟩ := hBu.cells
      clear hall hBl hBu
      go_wp2
      go_ret
      exact ⟨by simp, hA5⟩
    · have hor : j = 0 ∨ j = 1 ∨ j = 2 ∨ j = 3 ∨ j = 4 := by omega
      rcases hor with rfl | rfl | rfl | rfl | rfl
      · have k0 : wr.cell? ⟨w1.heap.size, 0, none⟩ = some (.int .i64 0) := hR.cel 0 (by decide)
        have k1 : wr.cell? ⟨w1.heap.size, 1, none⟩ = some (.bool false) := hR.cel 1 (by decide)
        have k2 : wr.cell? ⟨w1.heap.size, 2, none⟩ = some (.bool false) := hR.cel 2 (by decide)
        have k3 : wr.cell? ⟨w1.heap.size, 3, none⟩ = some (.int .i64 0) := hR.cel 3 (by decide)
        have k4 : wr.cell? ⟨w1.heap.size, 4, none⟩ = some (.int .u64 0) := hR.cel 4 (by decide)
        have k5 : wr.cell? ⟨w1.heap.size, 5, none⟩ = some (.int .u64 0) := hR.cel 5 (by decide)
        have k6 : wr.cell? ⟨w1.heap.size, 6, none⟩ = some (.int .u64 0) := hR.cel 6 (by decide)
        have k7 : wr.cell? ⟨w1.heap.size, 7, none⟩ = some (.int .u64 0) := hR.cel 7 (by decide)
        have f0 : wr.frozen? ⟨w1.heap.size, 0, none⟩ = false := hR.fro 0 (by decide)
        have f1 : wr.frozen? ⟨w1.heap.size, 1, none⟩ = false := hR.fro 1 (by decide)
        have f2 : wr.frozen? ⟨w1.heap.size, 2, none⟩ = false := hR.fro 2 (by decide)
        have f3 : wr.frozen? ⟨w1.heap.size, 3, none⟩ = false := hR.fro 3 (by decide)
        have f4 : wr.frozen? ⟨w1.heap.size, 4, none⟩ = false := hR.fro 4 (by decide)
        have f5 : wr.frozen? ⟨w1.heap.size, 5, none⟩ = false := hR.fro 5 (by decide)
        have f6 : wr.frozen? ⟨w1.heap.size, 6, none⟩ = false := hR.fro 6 (by decide)
        have f7 : wr.frozen? ⟨w1.heap.size, 7, none⟩ = false := hR.fro 7 (by decide)
        have hFj := hF 0
        have hq1 : 0 ≤ (F 0).tdiv 8 := Int.tdiv_nonneg hFj.1 (by decide)
        have hq2 : (F 0).tdiv 8 ≤ 100 := by rw [Int.tdiv_eq_ediv_of_nonneg hFj.1]; omega
        have hm1 := smD_bd hF 0
        have c7j := fun W hW hW' => c7 0 W (by decide) hW hW'
        have HR : Hid (DdW w w1.heap.size R 0 wr) := hR
        have HS : Hid (smD F 1 = smD F 0 + (F 0).tdiv 8) := rfl
        generalize smD F 0 = sm at *
        clear hR
        go_wp2_with (first
          | (go_at_call 8; refine (c7j _ (hTT _ _ hT bgo) bgo).mono ?_; rintro r w3 ⟨rfl, hb3⟩; obtain ⟨hc3, hf3⟩ := bcell hb3; have hz3_0 : w1.heap.size < w3.heap.size := lt_below hb3 ltg; have hl3_0 := Nat.le_of_lt hz3_0; have hA3 := bnext (w0 := w) bgo hb3; have hs3 := hA3.size; clear hb3))
        go_round
        case rel =>
          have hfr := HR.out.fro
          have hce := HR.out.cel
          refine ⟨1, by decide, rfl, by rw [HS.out], bgo, by simp; omega, hs1, fun i hi => ?_, fun i hi => ?_⟩
          · by_cases hor : i = 0 ∨ i = 1 ∨ i = 2 ∨ i = 3 ∨ i = 4 ∨ i = 5 ∨ i = 6 ∨ i = 7
            · rcases hor with rfl | rfl | rfl | rfl | rfl | rfl | rfl | rfl
              · show _ = some (.int .i64 (R 0).c : Value); go_simp
              · show _ = some (.bool (R 0).s : Value); go_simp
              · show _ = some (.bool (R 0).g : Value); go_simp
              · show _ = some (.int .i64 (R 0).x : Value); go_simp
              · show _ = some (.int .u64 (W4 (R 0).k 0) : Value); go_simp
              · show _ = some (.int .u64 (W4 (R 0).k 1) : Value); go_simp
              · show _ = some (.int .u64 (W4 (R 0).k 2) : Value); go_simp
              · show _ = some (.int .u64 (W4 (R 0).k 3) : Value); go_simp
            · have hki := hce i hi
              rw [show rwD R 1 (i / 8) (i % 8) = rwD R 0 (i / 8) (i % 8) by unfold rwD; by_cases q : i / 8 < 0; (rw [if_pos q, if_pos (by omega)]); (rw [if_neg q, if_neg (by omega)])]
              clear hce hfr
              have n0 : ¬ i = 0 := by omega
              have n1 : ¬ i = 1 := by omega
              have n2 : ¬ i = 2 := by omega
              have n3 : ¬ i = 3 := by omega
              have n4 : ¬ i = 4 := by omega
              have n5 : ¬ i = 5 := by omega
              have n6 : ¬ i = 6 := by omega
              have n7 : ¬ i = 7 := by omega
              go_simp
          · have hfi := hfr i hi
            clear hfr hce
            go_simp
        case measure => simp [intOf]
      · have k8 : wr.cell? ⟨w1.heap.size, 8, none⟩ = some (.int .i64 0) := hR.cel 8 (by decide)
        have k9 : wr.cell? ⟨w1.heap.size, 9, none⟩ = some (.bool false) := hR.cel 9 (by decide)
        have k10 : wr.cell? ⟨w1.heap.size, 10, none⟩ = some (.bool false) := hR.cel 10 (by decide)
        have k11 : wr.cell? ⟨w1.heap.size, 11, none⟩ = some (.int .i64 0) := hR.cel 11 (by decide)
        have k12 : wr.cell? ⟨w1.heap.size, 12, none⟩ = some (.int .u64 0) := hR.cel 12 (by decide)
        have k13 : wr.cell? ⟨w1.heap.size, 13, none⟩ = some (.int .u64 0) := hR.cel 13 (by decide)
        have k14 : wr.cell? ⟨w1.heap.size, 14, none⟩ = some (.int .u64 0) := hR.cel 14 (by decide)
        have k15 : wr.cell? ⟨w1.heap.size, 15, none⟩ = some (.int .u64 0) := hR.cel 15 (by decide)
        have f8 : wr.frozen? ⟨w1.heap.size, 8, none⟩ = false := hR.fro 8 (by decide)
        have f9 : wr.frozen? ⟨w1.heap.size, 9, none⟩ = false := hR.fro 9 (by decide)
        have f10 : wr.frozen? ⟨w1.heap.size, 10, none⟩ = false := hR.fro 10 (by decide)
        have f11 : wr.frozen? ⟨w1.heap.size, 11, none⟩ = false := hR.fro 11 (by decide)
        have f12 : wr.frozen? ⟨w1.heap.size, 12, none⟩ = false := hR.fro 12 (by decide)
        have f13 : wr.frozen? ⟨w1.heap.size, 13, none⟩ = false := hR.fro 13 (by decide)
        have f14 : wr.frozen? ⟨w1.heap.size, 14, none⟩ = false := hR.fro 14 (by decide)
        have f15 : wr.frozen? ⟨w1.heap.size, 15, none⟩ = false := hR.fro 15 (by decide)
        have hFj := hF 1
        have hq1 : 0 ≤ (F 1).tdiv 8 := Int.tdiv_nonneg hFj.1 (by decide)
        have hq2 : (F 1).tdiv 8 ≤ 100 := by rw [Int.tdiv_eq_ediv_of_nonneg hFj.1]; omega
        have hm1 := smD_bd hF 1
        have c7j := fun W hW hW' => c7 1 W (by decide) hW hW'
        have HR : Hid (DdW w w1.heap.size R 1 wr) := hR
        have HS : Hid (smD F 2 = smD F 1 + (F 1).tdiv 8) := rfl
        generalize smD F 1 = sm at *
        clear hR
        go_wp2_with (first
          | (go_at_call 8; refine (c7j _ (hTT _ _ hT bgo) bgo).mono ?_; rintro r w3 ⟨rfl, hb3⟩; obtain ⟨hc3, hf3⟩ := bcell hb3; have hz3_0 : w1.heap.size < w3.heap.size := lt_below hb3 ltg; have hl3_0 := Nat.le_of_lt hz3_0; have hA3 := bnext (w0 := w) bgo hb3; have hs3 := hA3.size; clear hb3))
        go_round
        case rel =>
          have hfr := HR.out.fro
          have hce := HR.out.cel
          refine ⟨2, by decide, rfl, by rw [HS.out], bgo, by simp; omega, hs1, fun i hi => ?_, fun i hi => ?_⟩
          · by_cases hor : i = 8 ∨ i = 9 ∨ i = 10 ∨ i = 11 ∨ i = 12 ∨ i = 13 ∨ i = 14 ∨ i = 15
            · rcases hor with rfl | rfl | rfl | rfl | rfl | rfl | rfl | rfl
              · show _ = some (.int .i64 (R 1).c : Value); go_simp
              · show _ = some (.bool (R 1).s : Value); go_simp
              · show _ = some (.bool (R 1).g : Value); go_simp
              · show _ = some (.int .i64 (R 1).x : Value); go_simp
              · show _ = some (.int .u64 (W4 (R 1).k 0) : Value); go_simp
              · show _ = some (.int .u64 (W4 (R 1).k 1) : Value); go_simp
              · show _ = some (.int .u64 (W4 (R 1).k 2) : Value); go_simp
              · show _ = some (.int .u64 (W4 (R 1).k 3) : Value); go_simp
            · have hki := hce i hi
              rw [show rwD R 2 (i / 8) (i % 8) = rwD R 1 (i / 8) (i % 8) by unfold rwD; by_cases q : i / 8 < 1; (rw [if_pos q, if_pos (by omega)]); (rw [if_neg q, if_neg (by omega)])]
              clear hce hfr
              have n0 : ¬ i = 8 := by omega
              have n1 : ¬ i = 9 := by omega
              have n2 : ¬ i = 10 := by omega
              have n3 : ¬ i = 11 := by omega
              have n4 : ¬ i = 12 := by omega
              have n5 : ¬ i = 13 := by omega
              have n6 : ¬ i = 14 := by omega
              have n7 : ¬ i = 15 := by omega
              go_simp
          · have hfi := hfr i hi
            clear hfr hce
            go_simp
        case measure => simp [intOf]
      · have k16 : wr.cell? ⟨w1.heap.size, 16, none⟩ = some (.int .i64 0) := hR.cel 16 (by decide)
        have k17 : wr.cell? ⟨w1.heap.size, 17, none⟩ = some (.bool false) := hR.cel 17 (by decide)
        have k18 : wr.cell? ⟨w1.heap.size, 18, none⟩ = some (.bool false) := hR.cel 18 (by decide)
        have k19 : wr.cell? ⟨w1.heap.size, 19, none⟩ = some (.int .i64 0) := hR.cel 19 (by decide)
        have k20 : wr.cell? ⟨w1.heap.size, 20, none⟩ = some (.int .u64 0) := hR.cel 20 (by decide)
        have k21 : wr.cell? ⟨w1.heap.size, 21, none⟩ = some (.int .u64 0) := hR.cel 21 (by decide)
        have k22 : wr.cell? ⟨w1.heap.size, 22, none⟩ = some (.int .u64 0) := hR.cel 22 (by decide)
        have k23 : wr.cell? ⟨w1.heap.size, 23, none⟩ = some (.int .u64 0) := hR.cel 23 (by decide)
        have f16 : wr.frozen? ⟨w1.heap.size, 16, none⟩ = false := hR.fro 16 (by decide)
        have f17 : wr.frozen? ⟨w1.heap.size, 17, none⟩ = false := hR.fro 17 (by decide)
        have f18 : wr.frozen? ⟨w1.heap.size, 18, none⟩ = false := hR.fro 18 (by decide)
        have f19 : wr.frozen? ⟨w1.heap.size, 19, none⟩ = false := hR.fro 19 (by decide)
        have f20 : wr.frozen? ⟨w1.heap.size, 20, none⟩ = false := hR.fro 20 (by decide)
        have f21 : wr.frozen? ⟨w1.heap.size, 21, none⟩ = false := hR.fro 21 (by decide)
        have f22 : wr.frozen? ⟨w1.heap.size, 22, none⟩ = false := hR.fro 22 (by decide)
        have f23 : wr.frozen? ⟨w1.heap.size, 23, none⟩ = false := hR.fro 23 (by decide)
        have hFj := hF 2
        have hq1 : 0 ≤ (F 2).tdiv 8 := Int.tdiv_nonneg hFj.1 (by decide)
        have hq2 : (F 2).tdiv 8 ≤ 100 := by rw [Int.tdiv_eq_ediv_of_nonneg hFj.1]; omega
        have hm1 := smD_bd hF 2
        have c7j := fun W hW hW' => c7 2 W (by decide) hW hW'
        have HR : Hid (DdW w w1.heap.size R 2 wr) := hR
        have HS : Hid (smD F 3 = smD F 2 + (F 2).tdiv 8) := rfl
        generalize smD F 2 = sm at *
        clear hR
        go_wp2_with (first
          | (go_at_call 8; refine (c7j _ (hTT _ _ hT bgo) bgo).mono ?_; rintro r w3 ⟨rfl, hb3⟩; obtain ⟨hc3, hf3⟩ := bcell hb3; have hz3_0 : w1.heap.size < w3.heap.size := lt_below hb3 ltg; have hl3_0 := Nat.le_of_lt hz3_0; have hA3 := bnext (w0 := w) bgo hb3; have hs3 := hA3.size; clear hb3))
        go_round
        case rel =>
          have hfr := HR.out.fro
          have hce := HR.out.cel
          refine ⟨3, by decide, rfl, by rw [HS.out], bgo, by simp; omega, hs1, fun i hi => ?_, fun i hi => ?_⟩
          · by_cases hor : i = 16 ∨ i = 17 ∨ i = 18 ∨ i = 19 ∨ i = 20 ∨ i = 21 ∨ i = 22 ∨ i = 23
            · rcases hor with rfl | rfl | rfl | rfl | rfl | rfl | rfl | rfl
              · show _ = some (.int .i64 (R 2).c : Value); go_simp
              · show _ = some (.bool (R 2).s : Value); go_simp
              · show _ = some (.bool (R 2).g : Value); go_simp
              · show _ = some (.int .i64 (R 2).x : Value); go_simp
              · show _ = some (.int .u64 (W4 (R 2).k 0) : Value); go_simp
              · show _ = some (.int .u64 (W4 (R 2).k 1) : Value); go_simp
              · show _ = some (.int .u64 (W4 (R 2).k 2) : Value); go_simp
              · show _ = some (.int .u64 (W4 (R 2).k 3) : Value); go_simp
            · have hki := hce i hi
              rw [show rwD R 3 (i / 8) (i % 8) = rwD R 2 (i / 8) (i % 8) by unfold rwD; by_cases q : i / 8 < 2; (rw [if_pos q, if_pos (by omega)]); (rw [if_neg q, if_neg (by omega)])]
              clear hce hfr
              have n0 : ¬ i = 16 := by omega
              have n1 : ¬ i = 17 := by omega
              have n2 : ¬ i = 18 := by omega
              have n3 : ¬ i = 19 := by omega
              have n4 : ¬ i = 20 := by omega
              have n5 : ¬ i = 21 := by omega
              have n6 : ¬ i = 22 := by omega
              have n7 : ¬ i = 23 := by omega
              go_simp
          · have hfi := hfr i hi
            clear hfr hce
            go_simp
        case measure => simp [intOf]
      · have k24 : wr.cell? ⟨w1.heap.size, 24, none⟩ = some (.int .i64 0) := hR.cel 24 (by decide)
        have k25 : wr.cell? ⟨w1.heap.size, 25, none⟩ = some (.bool false) := hR.cel 25 (by decide)
        have k26 : wr.cell? ⟨w1.heap.size, 26, none⟩ = some (.bool false) := hR.cel 26 (by decide)
        have k27 : wr.cell? ⟨w1.heap.size, 27, none⟩ = some (.int .i64 0) := hR.cel 27 (by decide)
        have k28 : wr.cell? ⟨w1.heap.size, 28, none⟩ = some (.int .u64 0) := hR.cel 28 (by decide)
        have k29 : wr.cell? ⟨w1.heap.size, 29, none⟩ = some (.int .u64 0) := hR.cel 29 (by decide)
        have k30 : wr.cell? ⟨w1.heap.size, 30, none⟩ = some (.int .u64 0) := hR.cel 30 (by decide)
        have k31 : wr.cell? ⟨w1.heap.size, 31, none⟩ = some (.int .u64 0) := hR.cel 31 (by decide)
        have f24 : wr.frozen? ⟨w1.heap.size, 24, none⟩ = false := hR.fro 24 (by decide)
        have f25 : wr.frozen? ⟨w1.heap.size, 25, none⟩ = false := hR.fro 25 (by decide)
        have f26 : wr.frozen? ⟨w1.heap.size, 26, none⟩ = false := hR.fro 26 (by decide)
        have f27 : wr.frozen? ⟨w1.heap.size, 27, none⟩ = false := hR.fro 27 (by decide)
        have f28 : wr.frozen? ⟨w1.heap.size, 28, none⟩ = false := hR.fro 28 (by decide)
        have f29 : wr.frozen? ⟨w1.heap.size, 29, none⟩ = false := hR.fro 29 (by decide)
        have f30 : wr.frozen? ⟨w1.heap.size, 30, none⟩ = false := hR.fro 30 (by decide)
        have f31 : wr.frozen? ⟨w1.heap.size, 31, none⟩ = false := hR.fro 31 (by decide)
        have hFj := hF 3
        have hq1 : 0 ≤ (F 3).tdiv 8 := Int.tdiv_nonneg hFj.1 (by decide)
        have hq2 : (F 3).tdiv 8 ≤ 100 := by rw [Int.tdiv_eq_ediv_of_nonneg hFj.1]; omega
        have hm1 := smD_bd hF 3
        have c7j := fun W hW hW' => c7 3 W (by decide) hW hW'
        have HR : Hid (DdW w w1.heap.size R 3 wr) := hR
        have HS : Hid (smD F 4 = smD F 3 + (F 3).tdiv 8) := rfl
        generalize smD F 3 = sm at *
        clear hR
        go_wp2_with (first
          | (go_at_call 8; refine (c7j _ (hTT _ _ hT bgo) bgo).mono ?_; rintro r w3 ⟨rfl, hb3⟩; obtain ⟨hc3, hf3⟩ := bcell hb3; have hz3_0 : w1.heap.size < w3.heap.size := lt_below hb3 ltg; have hl3_0 := Nat.le_of_lt hz3_0; have hA3 := bnext (w0 := w) bgo hb3; have hs3 := hA3.size; clear hb3))
        go_round
        case rel =>
          have hfr := HR.out.fro
          have hce := HR.out.cel
          refine ⟨4, by decide, rfl, by rw [HS.out], bgo, by simp; omega, hs1, fun i hi => ?_, fun i hi => ?_⟩
          · by_cases hor : i = 24 ∨ i = 25 ∨ i = 26 ∨ i = 27 ∨ i = 28 ∨ i = 29 ∨ i = 30 ∨ i = 31
            · rcases hor with rfl | rfl | rfl | rfl | rfl | rfl | rfl | rfl
              · show _ = some (.int .i64 (R 3).c : Value); go_simp
              · show _ = some (.bool (R 3).s : Value); go_simp
              · show _ = some (.bool (R 3).g : Value); go_simp
              · show _ = some (.int .i64 (R 3).x : Value); go_simp
              · show _ = some (.int .u64 (W4 (R 3).k 0) : Value); go_simp
              · show _ = some (.int .u64 (W4 (R 3).k 1) : Value); go_simp
              · show _ = some (.int .u64 (W4 (R 3).k 2) : Value); go_simp
              · show _ = some (.int .u64 (W4 (R 3).k 3) : Value); go_simp
            · have hki := hce i hi
              rw [show rwD R 4 (i / 8) (i % 8) = rwD R 3 (i / 8) (i % 8) by unfold rwD; by_cases q : i / 8 < 3; (rw [if_pos q, if_pos (by omega)]); (rw [if_neg q, if_neg (by omega)])]
              clear hce hfr
              have n0 : ¬ i = 24 := by omega
              have n1 : ¬ i = 25 := by omega
              have n2 : ¬ i = 26 := by omega
              have n3 : ¬ i = 27 := by omega
              have n4 : ¬ i = 28 := by omega
              have n5 : ¬ i = 29 := by omega
              have n6 : ¬ i = 30 := by omega
              have n7 : ¬ i = 31 := by omega
              go_simp
          · have hfi := hfr i hi
            clear hfr hce
            go_simp
        case measure => simp [intOf]
      · have k32 : wr.cell? ⟨w1.heap.size, 32, none⟩ = some (.int .i64 0) := hR.cel 32 (by decide)
        have k33 : wr.cell? ⟨w1.heap.size, 33, none⟩ = some (.bool false) := hR.cel 33 (by decide)
        have k34 : wr.cell? ⟨w1.heap.size, 34, none⟩ = some (.bool false) := hR.cel 34 (by decide)
        have k35 : wr.cell? ⟨w1.heap.size, 35, none⟩ = some (.int .i64 0) := hR.cel 35 (by decide)
        have k36 : wr.cell? ⟨w1.heap.size, 36, none⟩ = some (.int .u64 0) := hR.cel 36 (by decide)
        have k37 : wr.cell? ⟨w1.heap.size, 37, none⟩ = some (.int .u64 0) := hR.cel 37 (by decide)
        have k38 : wr.cell? ⟨w1.heap.size, 38, none⟩ = some (.int .u64 0) := hR.cel 38 (by decide)
        have k39 : wr.cell? ⟨w1.heap.size, 39, none⟩ = some (.int .u64 0) := hR.cel 39 (by decide)
        have f32 : wr.frozen? ⟨w1.heap.size, 32, none⟩ = false := hR.fro 32 (by decide)
        have f33 : wr.frozen? ⟨w1.heap.size, 33, none⟩ = false := hR.fro 33 (by decide)
        have f34 : wr.frozen? ⟨w1.heap.size, 34, none⟩ = false := hR.fro 34 (by decide)
        have f35 : wr.frozen? ⟨w1.heap.size, 35, none⟩ = false := hR.fro 35 (by decide)
        have f36 : wr.frozen? ⟨w1.heap.size, 36, none⟩ = false := hR.fro 36 (by decide)
        have f37 : wr.frozen? ⟨w1.heap.size, 37, none⟩ = false := hR.fro 37 (by decide)
        have f38 : wr.frozen? ⟨w1.heap.size, 38, none⟩ = false := hR.fro 38 (by decide)
        have f39 : wr.frozen? ⟨w1.heap.size, 39, none⟩ = false := hR.fro 39 (by decide)
        have hFj := hF 4
        have hq1 : 0 ≤ (F 4).tdiv 8 := Int.tdiv_nonneg hFj.1 (by decide)
        have hq2 : (F 4).tdiv 8 ≤ 100 := by rw [Int.tdiv_eq_ediv_of_nonneg hFj.1]; omega
        have hm1 := smD_bd hF 4
        have c7j := fun W hW hW' => c7 4 W (by decide) hW hW'
        have HR : Hid (DdW w w1.heap.size R 4 wr) := hR
        have HS : Hid (smD F 5 = smD F 4 + (F 4).tdiv 8) := rfl
        generalize smD F 4 = sm at *
        clear hR
        go_wp2_with (first
          | (go_at_call 8; refine (c7j _ (hTT _ _ hT bgo) bgo).mono ?_; rintro r w3 ⟨rfl, hb3⟩; obtain ⟨hc3, hf3⟩ := bcell hb3; have hz3_0 : w1.heap.size < w3.heap.size := lt_below hb3 ltg; have hl3_0 := Nat.le_of_lt hz3_0; have hA3 := bnext (w0 := w) bgo hb3; have hs3 := hA3.size; clear hb3))
        go_round
        case rel =>
          have hfr := HR.out.fro
          have hce := HR.out.cel
          refine ⟨5, by decide, rfl, by rw [HS.out], bgo, by simp; omega, hs1, fun i hi => ?_, fun i hi => ?_⟩
          · by_cases hor : i = 32 ∨ i = 33 ∨ i = 34 ∨ i = 35 ∨ i = 36 ∨ i = 37 ∨ i = 38 ∨ i = 39
            · rcases hor with rfl | rfl | rfl | rfl | rfl | rfl | rfl | rfl
              · show _ = some (.int .i64 (R 4).c : Value); go_simp
              · show _ = some (.bool (R 4).s : Value); go_simp
              · show _ = some (.bool (R 4).g : Value); go_simp
              · show _ = some (.int .i64 (R 4).x : Value); go_simp
              · show _ = some (.int .u64 (W4 (R 4).k 0) : Value); go_simp
              · show _ = some (.int .u64 (W4 (R 4).k 1) : Value); go_simp
              · show _ = some (.int .u64 (W4 (R 4).k 2) : Value); go_simp
              · show _ = some (.int .u64 (W4 (R 4).k 3) : Value); go_simp
            · have hki := hce i hi
              rw [show rwD R 5 (i / 8) (i % 8) = rwD R 4 (i / 8) (i % 8) by unfold rwD; by_cases q : i / 8 < 4; (rw [if_pos q, if_pos (by omega)]); (rw [if_neg q, if_neg (by omega)])]
              clear hce hfr
              have n0 : ¬ i = 32 := by omega
              have n1 : ¬ i = 33 := by omega
              have n2 : ¬ i = 34 := by omega
              have n3 : ¬ i = 35 := by omega
              have n4 : ¬ i = 36 := by omega
              have n5 : ¬ i = 37 := by omega
              have n6 : ¬ i = 38 := by omega
              have n7 : ¬ i = 39 := by omega
              go_simp
          · have hfi := hfr i hi
            clear hfr hce
            go_simp
        case measure => simp [intOf]
set_option maxHeartbeats 8000000 in
theorem dsd_At (hsb : s = true) (X : Dat) (hX : X.k < 2 ^ 256) (hall : ∀ i, i < 5 → R i = X) (hs5 : smD F 5 = 0) :
    Calls Tryd.prog 4 #[.int .i64 n, .bool s, .slice an kn cn, .slice ad kd cd, .int .i64 x] w fun r w' => r = .returned (.bool true) ∧ Below w.heap.size w w' := by
  subst hsb
  have HALL : Hid (∀ i, i < 5 → R i = X) := hall
  clear hall
  have HS5 : Hid (smD F 5 = 0) := hs5
  clear hs5
  have HT0 : Hid (TT w) := hT
  have hsm := cell_set_map
  go_enter Tryd.func4, Tryd.ntmps4
  go_wp2_with (first
    | (go_at_call 7; refine (c9 _ hT).mono ?_; rintro r w1 ⟨rfl, hb1⟩; obtain ⟨hc1, hf1⟩ := bcell hb1; have hA1 := bnext (w0 := w) bgo hb1; have hs1 := hA1.size; clear hb1)
    | (go_at_call 10; refine (c5 _).mono ?_; rintro r w2 ⟨rfl, rfl⟩)
    | (go_at_call 11; refine (c6 _ bgo).mono ?_; rintro r w2 ⟨rfl, rfl⟩))
  go_loopw [12, 42] (fun t12 t42 wr => ∃ j : Nat, j ≤ 5 ∧ t42 = .int .i64 (j : Int) ∧ t12 = .int .i64 (smD F j) ∧ DdW w w1.heap.size R j wr) (fun _ t42 _ => 5 - (intOf t42).toNat)
  case atStart =>
    refine ⟨0, by decide, rfl, rfl, bgo, by simp, hs1, fun i hi => ?_, fun i hi => ?_⟩
    · rw [show rwD R 0 (i / 8) (i % 8) = dcz (i % 8) from if_neg (by omega)]
      have hor : i = 0 ∨ i = 1 ∨ i = 2 ∨ i = 3 ∨ i = 4 ∨ i = 5 ∨ i = 6 ∨ i = 7 ∨ i = 8 ∨ i = 9 ∨ i = 10 ∨ i = 11 ∨ i = 12 ∨ i = 13 ∨ i = 14 ∨ i = 15 ∨ i = 16 ∨ i = 17 ∨ i = 18 ∨ i = 19 ∨ i = 20 ∨ i = 21 ∨ i = 22 ∨ i = 23 ∨ i = 24 ∨ i = 25 ∨ i = 26 ∨ i = 27 ∨ i = 28 ∨ i = 29 ∨ i = 30 ∨ i = 31 ∨ i = 32 ∨ i = 33 ∨ i = 34 ∨ i = 35 ∨ i = 36 ∨ i = 37 ∨ i = 38 ∨ i = 39 := by omega
      rcases hor with rfl | rfl | rfl | rfl | rfl | rfl | rfl | rfl | rfl | rfl | rfl | rfl | rfl | rfl | rfl | rfl | rfl | rfl | rfl | rfl | rfl | rfl | rfl | rfl | rfl | rfl | rfl | rfl | rfl | rfl | rfl | rfl | rfl | rfl | rfl | rfl | rfl | rfl | rfl | rfl
      · show _ = some (.int .i64 0 : Value); go_simp
      · show _ = some (.bool false : Value); go_simp
      · show _ = some (.bool false : Value); go_simp
      · show _ = some (.int .i64 0 : Value); go_simp
      · show _ = some (.int .u64 0 : Value); go_simp
      · show _ = some (.int .u64 0 : Value); go_simp
      · show _ = some (.int .u64 0 : Value); go_simp
      · show _ = some (.int .u64 0 : Value); go_simp
      · show _ = some (.int .i64 0 : Value); go_simp
      · show _ = some (.bool false : Value); go_simp
      · show _ = some (.bool false : Value); go_simp
      · show _ = some (.int .i64 0 : Value); go_simp
      · show _ = some (.int .u64 0 : Value); go_simp
      · show _ = some (.int .u64 0 : Value); go_simp
      · show _ = some (.int .u64 0 : Value); go_simp
      · show _ = some (.int .u64 0 : Value); go_simp
      · show _ = some (.int .i64 0 : Value); go_simp
      · show _ = some (.bool false : Value); go_simp
      · show _ = some (.bool false : Value); go_simp
      · show _ = some (.int .i64 0 : Value); go_simp
      · show _ = some (.int .u64 0 : Value); go_simp
      · show _ = some (.int .u64 0 : Value); go_simp
      · show _ = some (.int .u64 0 : Value); go_simp
      · show _ = some (.int .u64 0 : Value); go_simp
      · show _ = some (.int .i64 0 : Value); go_simp
      · show _ = some (.bool false : Value); go_simp
      · show _ = some (.bool false : Value); go_simp
      · show _ = some (.int .i64 0 : Value); go_simp
      · show _ = some (.int .u64 0 : Value); go_simp
      · show _ = some (.int .u64 0 : Value); go_simp
      · show _ = some (.int .u64 0 : Value); go_simp
      · show _ = some (.int .u64 0 : Value); go_simp
      · show _ = some (.int .i64 0 : Value); go_simp
      · show _ = some (.bool false : Value); go_simp
      · show _ = some (.bool false : Value); go_simp
      · show _ = some (.int .i64 0 : Value); go_simp
      · show _ = some (.int .u64 0 : Value); go_simp
      · show _ = some (.int .u64 0 : Value); go_simp
      · show _ = some (.int .u64 0 : Value); go_simp
      · show _ = some (.int .u64 0 : Value); go_simp
    · go_simp
  case round =>
    obtain ⟨j, hj, rfl, rfl, hR⟩ := hrel
    have hA0 := hR.bel
    have hl0 := hR.lt
    have hs0 := hA0.size
    by_cases h5 : j = 5
    · subst h5
      have kk : ∀ i, i < 40 → wr.cell? ⟨w1.heap.size, i, none⟩ = some (dcl (R (i / 8)) (i % 8)) := fun i hi => by
        have := hR.cel i hi
        rw [show rwD R 5 (i / 8) (i % 8) = dcl (R (i / 8)) (i % 8) from if_pos (by omega)] at this
        exact this
      clear hR c7 c6 c5 c9
      rw [HS5.out]
      have k0 : wr.cell? ⟨w1.heap.size, 0, none⟩ = some (.int .i64 (R 0).c) := kk 0 (by decide)
      have k1 : wr.cell? ⟨w1.heap.size, 1, none⟩ = some (.bool (R 0).s) := kk 1 (by decide)
      have k2 : wr.cell? ⟨w1.heap.size, 2, none⟩ = some (.bool (R 0).g) := kk 2 (by decide)
      have k3 : wr.cell? ⟨w1.heap.size, 3, none⟩ = some (.int .i64 (R 0).x) := kk 3 (by decide)
      have k4 : wr.cell? ⟨w1.heap.size, 4, none⟩ = some (.int .u64 (W4 (R 0).k 0)) := kk 4 (by decide)
      have k5 : wr.cell? ⟨w1.heap.size, 5, none⟩ = some (.int .u64 (W4 (R 0).k 1)) := kk 5 (by decide)
      have k6 : wr.cell? ⟨w1.heap.size, 6, none⟩ = some (.int .u64 (W4 (R 0).k 2)) := kk 6 (by decide)
      have k7 : wr.cell? ⟨w1.heap.size, 7, none⟩ = some (.int .u64 (W4 (R 0).k 3)) := kk 7 (by decide)
      have k8 : wr.cell? ⟨w1.heap.size, 8, none⟩ = some (.int .i64 (R 1).c) := kk 8 (by decide)
      have k9 : wr.cell? ⟨w1.heap.size, 9, none⟩ = some (.bool (R 1).s) := kk 9 (by decide)
      have k10 : wr.cell? ⟨w1.heap.size, 10, none⟩ = some (.bool (R 1).g) := kk 10 (by decide)
      have k11 : wr.cell? ⟨w1.heap.size, 11, none⟩ = some (.int .i64 (R 1).x) := kk 11 (by decide)
      have k12 : wr.cell? ⟨w1.heap.size, 12, none⟩ = some (.int .u64 (W4 (R 1).k 0)) := kk 12 (by decide)
      have k13 : wr.cell? ⟨w1.heap.size, 13, none⟩ = some (.int .u64 (W4 (R 1).k 1)) := kk 13 (by decide)
      have k14 : wr.cell? ⟨w1.heap.size, 14, none⟩ = some (.int .u64 (W4 (R 1).k 2)) := kk 14 (by decide)
      have k15 : wr.cell? ⟨w1.heap.size, 15, none⟩ = some (.int .u64 (W4 (R 1).k 3)) := kk 15 (by decide)
      have k16 : wr.cell? ⟨w1.heap.size, 16, none⟩ = some (.int .i64 (R 2).c) := kk 16 (by decide)
      have k17 : wr.cell? ⟨w1.heap.size, 17, none⟩ = some (.bool (R 2).s) := kk 17 (by decide)
      have k18 : wr.cell? ⟨w1.heap.size, 18, none⟩ = some (.bool (R 2).g) := kk 18 (by decide)
      have k19 : wr.cell? ⟨w1.heap.size, 19, none⟩ = some (.int .i64 (R 2).x) := kk 19 (by decide)
      have k20 : wr.cell? ⟨w1.heap.size, 20, none⟩ = some (.int .u64 (W4 (R 2).k 0)) := kk 20 (by decide)
      have k21 : wr.cell? ⟨w1.heap.size, 21, none⟩ = some (.int .u64 (W4 (R 2).k 1)) := kk 21 (by decide)
      have k22 : wr.cell? ⟨w1.heap.size, 22, none⟩ = some (.int .u64 (W4 (R 2).k 2)) := kk 22 (by decide)
      have k23 : wr.cell? ⟨w1.heap.size, 23, none⟩ = some (.int .u64 (W4 (R 2).k 3)) := kk 23 (by decide)
      have q3 : D8at w1.heap.size 24 (R 3).c (R 3).s (R 3).g (R 3).x (R 3).k wr := fun i hi => by
        have hor : i = 0 ∨ i = 1 ∨ i = 2 ∨ i = 3 ∨ i = 4 ∨ i = 5 ∨ i = 6 ∨ i = 7 := by omega
        rcases hor with rfl | rfl | rfl | rfl | rfl | rfl | rfl | rfl
        · exact kk 24 (by decide)
        · exact kk 25 (by decide)
        · exact kk 26 (by decide)
        · exact kk 27 (by decide)
        · exact kk 28 (by decide)
        · exact kk 29 (by decide)
        · exact kk 30 (by decide)
        · exact kk 31 (by decide)
      have q4 : D8at w1.heap.size 32 (R 4).c (R 4).s (R 4).g (R 4).x (R 4).k wr := fun i hi => by
        have hor : i = 0 ∨ i = 1 ∨ i = 2 ∨ i = 3 ∨ i = 4 ∨ i = 5 ∨ i = 6 ∨ i = 7 := by omega
        rcases hor with rfl | rfl | rfl | rfl | rfl | rfl | rfl | rfl
        · exact kk 32 (by decide)
        · exact kk 33 (by decide)
        · exact kk 34 (by decide)
        · exact kk 35 (by decide)
        · exact kk 36 (by decide)
        · exact kk 37 (by decide)
        · exact kk 38 (by decide)
        · exact kk 39 (by decide)
      clear kk
      go_wp2
      refine regS14 (h11 := w1.heap.size) rfl rfl hl0 q4 q3 ?_
      clear q3 q4
      intro a' w4 g h e17 e18 hne hg hh hD1 hD2 hsz' hdf hFr hb4
      have ha := act_of slotsS14 7 rfl hsz' hdf hFr
      rw [ha]
      simp only [slotsS14, List.foldl_cons, List.foldl_nil, Act.put, List.setIfInBounds_toArray, List.set_cons_succ, List.set_cons_zero, e17, e18]
      generalize slot a' 66 = s66
      generalize slot a' 67 = s67
      generalize slot a' 68 = s68
      generalize slot a' 69 = s69
      generalize slot a' 100 = s100
      clear ha e17 e18 hsz' hdf hFr
      replace k0 := (hb4.cell (p := ⟨w1.heap.size, 0, none⟩) hl0).trans k0
      replace k1 := (hb4.cell (p := ⟨w1.heap.size, 1, none⟩) hl0).trans k1
      replace k2 := (hb4.cell (p := ⟨w1.heap.size, 2, none⟩) hl0).trans k2
      replace k3 := (hb4.cell (p := ⟨w1.heap.size, 3, none⟩) hl0).trans k3
      replace k4 := (hb4.cell (p := ⟨w1.heap.size, 4, none⟩) hl0).trans k4
      replace k5 := (hb4.cell (p := ⟨w1.heap.size, 5, none⟩) hl0).trans k5
      replace k6 := (hb4.cell (p := ⟨w1.heap.size, 6, none⟩) hl0).trans k6
      replace k7 := (hb4.cell (p := ⟨w1.heap.size, 7, none⟩) hl0).trans k7
      replace k8 := (hb4.cell (p := ⟨w1.heap.size, 8, none⟩) hl0).trans k8
      replace k9 := (hb4.cell (p := ⟨w1.heap.size, 9, none⟩) hl0).trans k9
      replace k10 := (hb4.cell (p := ⟨w1.heap.size, 10, none⟩) hl0).trans k10
      replace k11 := (hb4.cell (p := ⟨w1.heap.size, 11, none⟩) hl0).trans k11
      replace k12 := (hb4.cell (p := ⟨w1.heap.size, 12, none⟩) hl0).trans k12
      replace k13 := (hb4.cell (p := ⟨w1.heap.size, 13, none⟩) hl0).trans k13
      replace k14 := (hb4.cell (p := ⟨w1.heap.size, 14, none⟩) hl0).trans k14
      replace k15 := (hb4.cell (p := ⟨w1.heap.size, 15, none⟩) hl0).trans k15
      replace k16 := (hb4.cell (p := ⟨w1.heap.size, 16, none⟩) hl0).trans k16
      replace k17 := (hb4.cell (p := ⟨w1.heap.size, 17, none⟩) hl0).trans k17
      replace k18 := (hb4.cell (p := ⟨w1.heap.size, 18, none⟩) hl0).trans k18
      replace k19 := (hb4.cell (p := ⟨w1.heap.size, 19, none⟩) hl0).trans k19
      replace k20 := (hb4.cell (p := ⟨w1.heap.size, 20, none⟩) hl0).trans k20
      replace k21 := (hb4.cell (p := ⟨w1.heap.size, 21, none⟩) hl0).trans k21
      replace k22 := (hb4.cell (p := ⟨w1.heap.size, 22, none⟩) hl0).trans k22
      replace k23 := (hb4.cell (p := ⟨w1.heap.size, 23, none⟩) hl0).trans k23
      have hl4 : w1.heap.size < w4.heap.size := Nat.lt_of_lt_of_le hl0 hb4.size
      have hA4 := bnext (w0 := w) hA0 hb4
      have hs4 := hA4.size
      have hg1 : w1.heap.size ≠ g := by omega
      have hg2 : w1.heap.size ≠ h := by omega
      have hgw : w.heap.size ≤ g := by omega
      have hhw : w.heap.size ≤ h := by omega
      clear hb4
      have hfg := hD1.2.2.2
      have hfh := hD2.2.2.2
      have hgl := hD1.1
      have hhl := hD2.1
      have hhg : h ≠ g := fun e => hne e.symm
      have hBl := hD1
      have hBu := hD2
      clear hD1 hD2
      have hall := HALL.out
      rw [hall 4 (by decide)] at hBl
      rw [hall 3 (by decide)] at hBu
      rw [hall 0 (by decide)] at k0 k1 k2 k3 k4 k5 k6 k7
      rw [hall 1 (by decide)] at k8 k9 k10 k11 k12 k13 k14 k15
      rw [hall 2 (by decide)] at k16 k17 k18 k19 k20 k21 k22 k23
      have hself := dat_eqT (rfl : X = X)
      obtain ⟨g0, g1, g2, g3, g4, g5, g6, g7⟩ := hBl.cells
      obtain ⟨i0, i1, i2, i3, i4, i5, i6, i7⟩ := hBu.cells
      clear hall hBl hBu
      go_wp2
      go_ret
      exact ⟨by simp, bgo⟩
    · have hor : j = 0 ∨ j = 1 ∨ j = 2 ∨ j = 3 ∨ j = 4 := by omega
      rcases hor with rfl | rfl | rfl | rfl | rfl
      · have k0 : wr.cell? ⟨w1.heap.size, 0, none⟩ = some (.int .i64 0) := hR.cel 0 (by decide)
        have k1 : wr.cell? ⟨w1.heap.size, 1, none⟩ = some (.bool false) := hR.cel 1 (by decide)
        have k2 : wr.cell? ⟨w1.heap.size, 2, none⟩ = some (.bool false) := hR.cel 2 (by decide)
        have k3 : wr.cell? ⟨w1.heap.size, 3, none⟩ = some (.int .i64 0) := hR.cel 3 (by decide)
        have k4 : wr.cell? ⟨w1.heap.size, 4, none⟩ = some (.int .u64 0) := hR.cel 4 (by decide)
        have k5 : wr.cell? ⟨w1.heap.size, 5, none⟩ = some (.int .u64 0) := hR.cel 5 (by decide)
        have k6 : wr.cell? ⟨w1.heap.size, 6, none⟩ = some (.int .u64 0) := hR.cel 6 (by decide)
        have k7 : wr.cell? ⟨w1.heap.size, 7, none⟩ = some (.int .u64 0) := hR.cel 7 (by decide)
        have f0 : wr.frozen? ⟨w1.heap.size, 0, none⟩ = false := hR.fro 0 (by decide)
        have f1 : wr.frozen? ⟨w1.heap.size, 1, none⟩ = false := hR.fro 1 (by decide)
        have f2 : wr.frozen? ⟨w1.heap.size, 2, none⟩ = false := hR.fro 2 (by decide)
        have f3 : wr.frozen? ⟨w1.heap.size, 3, none⟩ = false := hR.fro 3 (by decide)
        have f4 : wr.frozen? ⟨w1.heap.size, 4, none⟩ = false := hR.fro 4 (by decide)
        have f5 : wr.frozen? ⟨w1.heap.size, 5, none⟩ = false := hR.fro 5 (by decide)
        have f6 : wr.frozen? ⟨w1.heap.size, 6, none⟩ = false := hR.fro 6 (by decide)
        have f7 : wr.frozen? ⟨w1.heap.size, 7, none⟩ = false := hR.fro 7 (by decide)
        have hFj := hF 0
        have hq1 : 0 ≤ (F 0).tdiv 8 := Int.tdiv_nonneg hFj.1 (by decide)
        have hq2 : (F 0).tdiv 8 ≤ 100 := by rw [Int.tdiv_eq_ediv_of_nonneg hFj.1]; omega
        have hm1 := smD_bd hF 0
        have c7j := fun W hW hW' => c7 0 W (by decide) hW hW'
        have HR : Hid (DdW w w1.heap.size R 0 wr) := hR
        have HS : Hid (smD F 1 = smD F 0 + (F 0).tdiv 8) := rfl
        generalize smD F 0 = sm at *
        clear hR
        go_wp2_with (first
          | (go_at_call 8; refine (c7j _ (hTT _ _ hT bgo) bgo).mono ?_; rintro r w3 ⟨rfl, hb3⟩; obtain ⟨hc3, hf3⟩ := bcell hb3; have hz3_0 : w1.heap.size < w3.heap.size := lt_below hb3 ltg; have hl3_0 := Nat.le_of_lt hz3_0; have hA3 := bnext (w0 := w) bgo hb3; have hs3 := hA3.size; clear hb3))
        go_round
        case rel =>
          have hfr := HR.out.fro
          have hce := HR.out.cel
          refine ⟨1, by decide, rfl, by rw [HS.out], bgo, by simp; omega, hs1, fun i hi => ?_, fun i hi => ?_⟩
          · by_cases hor : i = 0 ∨ i = 1 ∨ i = 2 ∨ i = 3 ∨ i = 4 ∨ i = 5 ∨ i = 6 ∨ i = 7
            · rcases hor with rfl | rfl | rfl | rfl | rfl | rfl | rfl | rfl
              · show _ = some (.int .i64 (R 0).c : Value); go_simp
              · show _ = some (.bool (R 0).s : Value); go_simp
              · show _ = some (.bool (R 0).g : Value); go_simp
              · show _ = some (.int .i64 (R 0).x : Value); go_simp
              · show _ = some (.int .u64 (W4 (R 0).k 0) : Value); go_simp
              · show _ = some (.int .u64 (W4 (R 0).k 1) : Value); go_simp
              · show _ = some (.int .u64 (W4 (R 0).k 2) : Value); go_simp
              · show _ = some (.int .u64 (W4 (R 0).k 3) : Value); go_simp
            · have hki := hce i hi
              rw [show rwD R 1 (i / 8) (i % 8) = rwD R 0 (i / 8) (i % 8) by unfold rwD; by_cases q : i / 8 < 0; (rw [if_pos q, if_pos (by omega)]); (rw [if_neg q, if_neg (by omega)])]
              clear hce hfr
              have n0 : ¬ i = 0 := by omega
              have n1 : ¬ i = 1 := by omega
              have n2 : ¬ i = 2 := by omega
              have n3 : ¬ i = 3 := by omega
              have n4 : ¬ i = 4 := by omega
              have n5 : ¬ i = 5 := by omega
              have n6 : ¬ i = 6 := by omega
              have n7 : ¬ i = 7 := by omega
              go_simp
          · have hfi := hfr i hi
            clear hfr hce
            go_simp
        case measure => simp [intOf]
      · have k8 : wr.cell? ⟨w1.heap.size, 8, none⟩ = some (.int .i64 0) := hR.cel 8 (by decide)
        have k9 : wr.cell? ⟨w1.heap.size, 9, none⟩ = some (.bool false) := hR.cel 9 (by decide)
        have k10 : wr.cell? ⟨w1.heap.size, 10, none⟩ = some (.bool false) := hR.cel 10 (by decide)
        have k11 : wr.cell? ⟨w1.heap.size, 11, none⟩ = some (.int .i64 0) := hR.cel 11 (by decide)
        have k12 : wr.cell? ⟨w1.heap.size, 12, none⟩ = some (.int .u64 0) := hR.cel 12 (by decide)
        have k13 : wr.cell? ⟨w1.heap.size, 13, none⟩ = some (.int .u64 0) := hR.cel 13 (by decide)
        have k14 : wr.cell? ⟨w1.heap.size, 14, none⟩ = some (.int .u64 0) := hR.cel 14 (by decide)
        have k15 : wr.cell? ⟨w1.heap.size, 15, none⟩ = some (.int .u64 0) := hR.cel 15 (by decide)
        have f8 : wr.frozen? ⟨w1.heap.size, 8, none⟩ = false := hR.fro 8 (by decide)
        have f9 : wr.frozen? ⟨w1.heap.size, 9, none⟩ = false := hR.fro 9 (by decide)
        have f10 : wr.frozen? ⟨w1.heap.size, 10, none⟩ = false := hR.fro 10 (by decide)
        have f11 : wr.frozen? ⟨w1.heap.size, 11, none⟩ = false := hR.fro 11 (by decide)
        have f12 : wr.frozen? ⟨w1.heap.size, 12, none⟩ = false := hR.fro 12 (by decide)
        have f13 : wr.frozen? ⟨w1.heap.size, 13, none⟩ = false := hR.fro 13 (by decide)
        have f14 : wr.frozen? ⟨w1.heap.size, 14, none⟩ = false := hR.fro 14 (by decide)
        have f15 : wr.frozen? ⟨w1.heap.size, 15, none⟩ = false := hR.fro 15 (by decide)
        have hFj := hF 1
        have hq1 : 0 ≤ (F 1).tdiv 8 := Int.tdiv_nonneg hFj.1 (by decide)
        have hq2 : (F 1).tdiv 8 ≤ 100 := by rw [Int.tdiv_eq_ediv_of_nonneg hFj.1]; omega
        have hm1 := smD_bd hF 1
        have c7j := fun W hW hW' => c7 1 W (by decide) hW hW'
        have HR : Hid (DdW w w1.heap.size R 1 wr) := hR
        have HS : Hid (smD F 2 = smD F 1 + (F 1).tdiv 8) := rfl
        generalize smD F 1 = sm at *
        clear hR
        go_wp2_with (first
          | (go_at_call 8; refine (c7j _ (hTT _ _ hT bgo) bgo).mono ?_; rintro r w3 ⟨rfl, hb3⟩; obtain ⟨hc3, hf3⟩ := bcell hb3; have hz3_0 : w1.heap.size < w3.heap.size := lt_below hb3 ltg; have hl3_0 := Nat.le_of_lt hz3_0; have hA3 := bnext (w0 := w) bgo hb3; have hs3 := hA3.size; clear hb3))
        go_round
        case rel =>
          have hfr := HR.out.fro
          have hce := HR.out.cel
          refine ⟨2, by decide, rfl, by rw [HS.out], bgo, by simp; omega, hs1, fun i hi => ?_, fun i hi => ?_⟩
          · by_cases hor : i = 8 ∨ i = 9 ∨ i = 10 ∨ i = 11 ∨ i = 12 ∨ i = 13 ∨ i = 14 ∨ i = 15
            · rcases hor with rfl | rfl | rfl | rfl | rfl | rfl | rfl | rfl
              · show _ = some (.int .i64 (R 1).c : Value); go_simp
              · show _ = some (.bool (R 1).s : Value); go_simp
              · show _ = some (.bool (R 1).g : Value); go_simp
              · show _ = some (.int .i64 (R 1).x : Value); go_simp
              · show _ = some (.int .u64 (W4 (R 1).k 0) : Value); go_simp
              · show _ = some (.int .u64 (W4 (R 1).k 1) : Value); go_simp
              · show _ = some (.int .u64 (W4 (R 1).k 2) : Value); go_simp
              · show _ = some (.int .u64 (W4 (R 1).k 3) : Value); go_simp
            · have hki := hce i hi
              rw [show rwD R 2 (i / 8) (i % 8) = rwD R 1 (i / 8) (i % 8) by unfold rwD; by_cases q : i / 8 < 1; (rw [if_pos q, if_pos (by omega)]); (rw [if_neg q, if_neg (by omega)])]
              clear hce hfr
              have n0 : ¬ i = 8 := by omega
              have n1 : ¬ i = 9 := by omega
              have n2 : ¬ i = 10 := by omega
              have n3 : ¬ i = 11 := by omega
              have n4 : ¬ i = 12 := by omega
              have n5 : ¬ i = 13 := by omega
              have n6 : ¬ i = 14 := by omega
              have n7 : ¬ i = 15 := by omega
              go_simp
          · have hfi := hfr i hi
            clear hfr hce
            go_simp
        case measure => simp [intOf]
      · have k16 : wr.cell? ⟨w1.heap.size, 16, none⟩ = some (.int .i64 0) := hR.cel 16 (by decide)
        have k17 : wr.cell? ⟨w1.heap.size, 17, none⟩ = some (.bool false) := hR.cel 17 (by decide)
        have k18 : wr.cell? ⟨w1.heap.size, 18, none⟩ = some (.bool false) := hR.cel 18 (by decide)
        have k19 : wr.cell? ⟨w1.heap.size, 19, none⟩ = some (.int .i64 0) := hR.cel 19 (by decide)
        have k20 : wr.cell? ⟨w1.heap.size, 20, none⟩ = some (.int .u64 0) := hR.cel 20 (by decide)
        have k21 : wr.cell? ⟨w1.heap.size, 21, none⟩ = some (.int .u64 0) := hR.cel 21 (by decide)
        have k22 : wr.cell? ⟨w1.heap.size, 22, none⟩ = some (.int .u64 0) := hR.cel 22 (by decide)
        have k23 : wr.cell? ⟨w1.heap.size, 23, none⟩ = some (.int .u64 0) := hR.cel 23 (by decide)
        have f16 : wr.frozen? ⟨w1.heap.size, 16, none⟩ = false := hR.fro 16 (by decide)
        have f17 : wr.frozen? ⟨w1.heap.size, 17, none⟩ = false := hR.fro 17 (by decide)
        have f18 : wr.frozen? ⟨w1.heap.size, 18, none⟩ = false := hR.fro 18 (by decide)
        have f19 : wr.frozen? ⟨w1.heap.size, 19, none⟩ = false := hR.fro 19 (by decide)
        have f20 : wr.frozen? ⟨w1.heap.size, 20, none⟩ = false := hR.fro 20 (by decide)
        have f21 : wr.frozen? ⟨w1.heap.size, 21, none⟩ = false := hR.fro 21 (by decide)
        have f22 : wr.frozen? ⟨w1.heap.size, 22, none⟩ = false := hR.fro 22 (by decide)
        have f23 : wr.frozen? ⟨w1.heap.size, 23, none⟩ = false := hR.fro 23 (by decide)
        have hFj := hF 2
        have hq1 : 0 ≤ (F 2).tdiv 8 := Int.tdiv_nonneg hFj.1 (by decide)
        have hq2 : (F 2).tdiv 8 ≤ 100 := by rw [Int.tdiv_eq_ediv_of_nonneg hFj.1]; omega
        have hm1 := smD_bd hF 2
        have c7j := fun W hW hW' => c7 2 W (by decide) hW hW'
        have HR : Hid (DdW w w1.heap.size R 2 wr) := hR
        have HS : Hid (smD F 3 = smD F 2 + (F 2).tdiv 8) := rfl
        generalize smD F 2 = sm at *
        clear hR
        go_wp2_with (first
          | (go_at_call 8; refine (c7j _ (hTT _ _ hT bgo) bgo).mono ?_; rintro r w3 ⟨rfl, hb3⟩; obtain ⟨hc3, hf3⟩ := bcell hb3; have hz3_0 : w1.heap.size < w3.heap.size := lt_below hb3 ltg; have hl3_0 := Nat.le_of_lt hz3_0; have hA3 := bnext (w0 := w) bgo hb3; have hs3 := hA3.size; clear hb3))
        go_round
        case rel =>
          have hfr := HR.out.fro
          have hce := HR.out.cel
          refine ⟨3, by decide, rfl, by rw [HS.out], bgo, by simp; omega, hs1, fun i hi => ?_, fun i hi => ?_⟩
          · by_cases hor : i = 16 ∨ i = 17 ∨ i = 18 ∨ i = 19 ∨ i = 20 ∨ i = 21 ∨ i = 22 ∨ i = 23
            · rcases hor with rfl | rfl | rfl | rfl | rfl | rfl | rfl | rfl
              · show _ = some (.int .i64 (R 2).c : Value); go_simp
              · show _ = some (.bool (R 2).s : Value); go_simp
              · show _ = some (.bool (R 2).g : Value); go_simp
              · show _ = some (.int .i64 (R 2).x : Value); go_simp
              · show _ = some (.int .u64 (W4 (R 2).k 0) : Value); go_simp
              · show _ = some (.int .u64 (W4 (R 2).k 1) : Value); go_simp
              · show _ = some (.int .u64 (W4 (R 2).k 2) : Value); go_simp
              · show _ = some (.int .u64 (W4 (R 2).k 3) : Value); go_simp
            · have hki := hce i hi
              rw [show rwD R 3 (i / 8) (i % 8) = rwD R 2 (i / 8) (i % 8) by unfold rwD; by_cases q : i / 8 < 2; (rw [if_pos q, if_pos (by omega)]); (rw [if_neg q, if_neg (by omega)])]
              clear hce hfr
              have n0 : ¬ i = 16 := by omega
              have n1 : ¬ i = 17 := by omega
              have n2 : ¬ i = 18 := by omega
              have n3 : ¬ i = 19 := by omega
              have n4 : ¬ i = 20 := by omega
              have n5 : ¬ i = 21 := by omega
              have n6 : ¬ i = 22 := by omega
              have n7 : ¬ i = 23 := by omega
              go_simp
          · have hfi := hfr i hi
            clear hfr hce
            go_simp
        case measure => simp [intOf]
      · have k24 : wr.cell? ⟨w1.heap.size, 24, none⟩ = some (.int .i64 0) := hR.cel 24 (by decide)
        have k25 : wr.cell? ⟨w1.heap.size, 25, none⟩ = some (.bool false) := hR.cel 25 (by decide)
        have k26 : wr.cell? ⟨w1.heap.size, 26, none⟩ = some (.bool false) := hR.cel 26 (by decide)
        have k27 : wr.cell? ⟨w1.heap.size, 27, none⟩ = some (.int .i64 0) := hR.cel 27 (by decide)
        have k28 : wr.cell? ⟨w1.heap.size, 28, none⟩ = some (.int .u64 0) := hR.cel 28 (by decide)
        have k29 : wr.cell? ⟨w1.heap.size, 29, none⟩ = some (.int .u64 0) := hR.cel 29 (by decide)
        have k30 : wr.cell? ⟨w1.heap.size, 30, none⟩ = some (.int .u64 0) := hR.cel 30 (by decide)
        have k31 : wr.cell? ⟨w1.heap.size, 31, none⟩ = some (.int .u64 0) := hR.cel 31 (by decide)
        have f24 : wr.frozen? ⟨w1.heap.size, 24, none⟩ = false := hR.fro 24 (by decide)
        have f25 : wr.frozen? ⟨w1.heap.size, 25, none⟩ = false := hR.fro 25 (by decide)
        have f26 : wr.frozen? ⟨w1.heap.size, 26, none⟩ = false := hR.fro 26 (by decide)
        have f27 : wr.frozen? ⟨w1.heap.size, 27, none⟩ = false := hR.fro 27 (by decide)
        have f28 : wr.frozen? ⟨w1.heap.size, 28, none⟩ = false := hR.fro 28 (by decide)
        have f29 : wr.frozen? ⟨w1.heap.size, 29, none⟩ = false := hR.fro 29 (by decide)
        have f30 : wr.frozen? ⟨w1.heap.size, 30, none⟩ = false := hR.fro 30 (by decide)
        have f31 : wr.frozen? ⟨w1.heap.size, 31, none⟩ = false := hR.fro 31 (by decide)
        have hFj := hF 3
        have hq1 : 0 ≤ (F 3).tdiv 8 := Int.tdiv_nonneg hFj.1 (by decide)
        have hq2 : (F 3).tdiv 8 ≤ 100 := by rw [Int.tdiv_eq_ediv_of_nonneg hFj.1]; omega
        have hm1 := smD_bd hF 3
        have c7j := fun W hW hW' => c7 3 W (by decide) hW hW'
        have HR : Hid (DdW w w1.heap.size R 3 wr) := hR
        have HS : Hid (smD F 4 = smD F 3 + (F 3).tdiv 8) := rfl
        generalize smD F 3 = sm at *
        clear hR
        go_wp2_with (first
          | (go_at_call 8; refine (c7j _ (hTT _ _ hT bgo) bgo).mono ?_; rintro r w3 ⟨rfl, hb3⟩; obtain ⟨hc3, hf3⟩ := bcell hb3; have hz3_0 : w1.heap.size < w3.heap.size := lt_below hb3 ltg; have hl3_0 := Nat.le_of_lt hz3_0; have hA3 := bnext (w0 := w) bgo hb3; have hs3 := hA3.size; clear hb3))
        go_round
        case rel =>
          have hfr := HR.out.fro
          have hce := HR.out.cel
          refine ⟨4, by decide, rfl, by rw [HS.out], bgo, by simp; omega, hs1, fun i hi => ?_, fun i hi => ?_⟩
          · by_cases hor : i = 24 ∨ i = 25 ∨ i = 26 ∨ i = 27 ∨ i = 28 ∨ i = 29 ∨ i = 30 ∨ i = 31
            · rcases hor with rfl | rfl | rfl | rfl | rfl | rfl | rfl | rfl
              · show _ = some (.int .i64 (R 3).c : Value); go_simp
              · show _ = some (.bool (R 3).s : Value); go_simp
              · show _ = some (.bool (R 3).g : Value); go_simp
              · show _ = some (.int .i64 (R 3).x : Value); go_simp
              · show _ = some (.int .u64 (W4 (R 3).k 0) : Value); go_simp
              · show _ = some (.int .u64 (W4 (R 3).k 1) : Value); go_simp
              · show _ = some (.int .u64 (W4 (R 3).k 2) : Value); go_simp
              · show _ = some (.int .u64 (W4 (R 3).k 3) : Value); go_simp
            · have hki := hce i hi
              rw [show rwD R 4 (i / 8) (i % 8) = rwD R 3 (i / 8) (i % 8) by unfold rwD; by_cases q : i / 8 < 3; (rw [if_pos q, if_pos (by omega)]); (rw [if_neg q, if_neg (by omega)])]
              clear hce hfr
              have n0 : ¬ i = 24 := by omega
              have n1 : ¬ i = 25 := by omega
              have n2 : ¬ i = 26 := by omega
              have n3 : ¬ i = 27 := by omega
              have n4 : ¬ i = 28 := by omega
              have n5 : ¬ i = 29 := by omega
              have n6 : ¬ i = 30 := by omega
              have n7 : ¬ i = 31 := by omega
              go_simp
          · have hfi := hfr i hi
            clear hfr hce
            go_simp
        case measure => simp [intOf]
      · have k32 : wr.cell? ⟨w1.heap.size, 32, none⟩ = some (.int .i64 0) := hR.cel 32 (by decide)
        have k33 : wr.cell? ⟨w1.heap.size, 33, none⟩ = some (.bool false) := hR.cel 33 (by decide)
        have k34 : wr.cell? ⟨w1.heap.size, 34, none⟩ = some (.bool false) := hR.cel 34 (by decide)
        have k35 : wr.cell? ⟨w1.heap.size, 35, none⟩ = some (.int .i64 0) := hR.cel 35 (by decide)
        have k36 : wr.cell? ⟨w1.heap.size, 36, none⟩ = some (.int .u64 0) := hR.cel 36 (by decide)
        have k37 : wr.cell? ⟨w1.heap.size, 37, none⟩ = some (.int .u64 0) := hR.cel 37 (by decide)
        have k38 : wr.cell? ⟨w1.heap.size, 38, none⟩ = some (.int .u64 0) := hR.cel 38 (by decide)
        have k39 : wr.cell? ⟨w1.heap.size, 39, none⟩ = some (.int .u64 0) := hR.cel 39 (by decide)
        have f32 : wr.frozen? ⟨w1.heap.size, 32, none⟩ = false := hR.fro 32 (by decide)
        have f33 : wr.frozen? ⟨w1.heap.size, 33, none⟩ = false := hR.fro 33 (by decide)
        have f34 : wr.frozen? ⟨w1.heap.size, 34, none⟩ = false := hR.fro 34 (by decide)
        have f35 : wr.frozen? ⟨w1.heap.size, 35, none⟩ = false := hR.fro 35 (by decide)
        have f36 : wr.frozen? ⟨w1.heap.size, 36, none⟩ = false := hR.fro 36 (by decide)
        have f37 : wr.frozen? ⟨w1.heap.size, 37, none⟩ = false := hR.fro 37 (by decide)
        have f38 : wr.frozen? ⟨w1.heap.size, 38, none⟩ = false := hR.fro 38 (by decide)
        have f39 : wr.frozen? ⟨w1.heap.size, 39, none⟩ = false := hR.fro 39 (by decide)
        have hFj := hF 4
        have hq1 : 0 ≤ (F 4).tdiv 8 := Int.tdiv_nonneg hFj.1 (by decide)
        have hq2 : (F 4).tdiv 8 ≤ 100 := by rw [Int.tdiv_eq_ediv_of_nonneg hFj.1]; omega
        have hm1 := smD_bd hF 4
        have c7j := fun W hW hW' => c7 4 W (by decide) hW hW'
        have HR : Hid (DdW w w1.heap.size R 4 wr) := hR
        have HS : Hid (smD F 5 = smD F 4 + (F 4).tdiv 8) := rfl
        generalize smD F 4 = sm at *
        clear hR
        go_wp2_with (first
          | (go_at_call 8; refine (c7j _ (hTT _ _ hT bgo) bgo).mono ?_; rintro r w3 ⟨rfl, hb3⟩; obtain ⟨hc3, hf3⟩ := bcell hb3; have hz3_0 : w1.heap.size < w3.heap.size := lt_below hb3 ltg; have hl3_0 := Nat.le_of_lt hz3_0; have hA3 := bnext (w0 := w) bgo hb3; have hs3 := hA3.size; clear hb3))
        go_round
        case rel =>
          have hfr := HR.out.fro
          have hce := HR.out.cel
          refine ⟨5, by decide, rfl, by rw [HS.out], bgo, by simp; omega, hs1, fun i hi => ?_, fun i hi => ?_⟩
          · by_cases hor : i = 32 ∨ i = 33 ∨ i = 34 ∨ i = 35 ∨ i = 36 ∨ i = 37 ∨ i = 38 ∨ i = 39
            · rcases hor with rfl | rfl | rfl | rfl | rfl | rfl | rfl | rfl
              · show _ = some (.int .i64 (R 4).c : Value); go_simp
              · show _ = some (.bool (R 4).s : Value); go_simp
              · show _ = some (.bool (R 4).g : Value); go_simp
              · show _ = some (.int .i64 (R 4).x : Value); go_simp
              · show _ = some (.int .u64 (W4 (R 4).k 0) : Value); go_simp
              · show _ = some (.int .u64 (W4 (R 4).k 1) : Value); go_simp
              · show _ = some (.int .u64 (W4 (R 4).k 2) : Value); go_simp
              · show _ = some (.int .u64 (W4 (R 4).k 3) : Value); go_simp
            · have hki := hce i hi
              rw [show rwD R 5 (i / 8) (i % 8) = rwD R 4 (i / 8) (i % 8) by unfold rwD; by_cases q : i / 8 < 4; (rw [if_pos q, if_pos (by omega)]); (rw [if_neg q, if_neg (by omega)])]
              clear hce hfr
              have n0 : ¬ i = 32 := by omega
              have n1 : ¬ i = 33 := by omega
              have n2 : ¬ i = 34 := by omega
              have n3 : ¬ i = 35 := by omega
              have n4 : ¬ i = 36 := by omega
              have n5 : ¬ i = 37 := by omega
              have n6 : ¬ i = 38 := by omega
              have n7 : ¬ i = 39 := by omega
              go_simp
          · have hfi := hfr i hi
            clear hfr hce
            go_simp
        case measure => simp [intOf]
set_option maxHeartbeats 8000000 in
theorem dsd_Bf (hsb : s = false) (hs5 : smD F 5 = 5) (hH : R 4 ≠ R 3) (h22 : R 2 = R 4) (h00 : R 0 = R 4 ∨ R 0 = R 3) (h11 : R 1 = R 4 ∨ R 1 = R 3) :
    Calls Tryd.prog 4 #[.int .i64 n, .bool s, .slice an kn cn, .slice ad kd cd, .int .i64 x] w fun r w' => r = .returned (.bool true) ∧ Below w.heap.size w w' := by
  subst hsb
  have HHH : Hid (R 4 ≠ R 3 ∧ R 2 = R 4 ∧ (R 0 = R 4 ∨ R 0 = R 3) ∧ (R 1 = R 4 ∨ R 1 = R 3)) := ⟨hH, h22, h00, h11⟩
  clear hH h22 h00 h11
  have HS5 : Hid (smD F 5 = 5) := hs5
  clear hs5
  have HT0 : Hid (TT w) := hT
  have hsm := cell_set_map
  go_enter Tryd.func4, Tryd.ntmps4
  go_wp2_with (first
    | (go_at_call 7; refine (c9 _ hT).mono ?_; rintro r w1 ⟨rfl, hb1⟩; obtain ⟨hc1, hf1⟩ := bcell hb1; have hA1 := bnext (w0 := w) bgo hb1; have hs1 := hA1.size; clear hb1)
    | (go_at_call 10; refine (c5 _).mono ?_; rintro r w2 ⟨rfl, rfl⟩)
    | (go_at_call 11; refine (c6 _ bgo).mono ?_; rintro r w2 ⟨rfl, rfl⟩))
  go_loopw [12, 42] (fun t12 t42 wr => ∃ j : Nat, j ≤ 5 ∧ t42 = .int .i64 (j : Int) ∧ t12 = .int .i64 (smD F j) ∧ DdW w w1.heap.size R j wr) (fun _ t42 _ => 5 - (intOf t42).toNat)
  case atStart =>
    refine ⟨0, by decide, rfl, rfl, bgo, by simp, hs1, fun i hi => ?_, fun i hi => ?_⟩
    · rw [show rwD R 0 (i / 8) (i % 8) = dcz (i % 8) from if_neg (by omega)]
      have hor : i = 0 ∨ i = 1 ∨ i = 2 ∨ i = 3 ∨ i = 4 ∨ i = 5 ∨ i = 6 ∨ i = 7 ∨ i = 8 ∨ i = 9 ∨ i = 10 ∨ i = 11 ∨ i = 12 ∨ i = 13 ∨ i = 14 ∨ i = 15 ∨ i = 16 ∨ i = 17 ∨ i = 18 ∨ i = 19 ∨ i = 20 ∨ i = 21 ∨ i = 22 ∨ i = 23 ∨ i = 24 ∨ i = 25 ∨ i = 26 ∨ i = 27 ∨ i = 28 ∨ i = 29 ∨ i = 30 ∨ i = 31 ∨ i = 32 ∨ i = 33 ∨ i = 34 ∨ i = 35 ∨ i = 36 ∨ i = 37 ∨ i = 38 ∨ i = 39 := by omega
      rcases hor with rfl | rfl | rfl | rfl | rfl | rfl | rfl | rfl | rfl | rfl | rfl | rfl | rfl | rfl | rfl | rfl | rfl | rfl | rfl | rfl | rfl | rfl | rfl | rfl | rfl | rfl | rfl | rfl | rfl | rfl | rfl | rfl | rfl | rfl | rfl | rfl | rfl | rfl | rfl | rfl
      · show _ = some (.int .i64 0 : Value); go_simp
      · show _ = some (.bool false : Value); go_simp
      · show _ = some (.bool false : Value); go_simp
      · show _ = some (.int .i64 0 : Value); go_simp
      · show _ = some (.int .u64 0 : Value); go_simp
      · show _ = some (.int .u64 0 : Value); go_simp
      · show _ = some (.int .u64 0 : Value); go_simp
      · show _ = some (.int .u64 0 : Value); go_simp
      · show _ = some (.int .i64 0 : Value); go_simp
      · show _ = some (.bool false : Value); go_simp
      · show _ = some (.bool false : Value); go_simp
      · show _ = some (.int .i64 0 : Value); go_simp
      · show _ = some (.int .u64 0 : Value); go_simp
      · show _ = some (.int .u64 0 : Value); go_simp
      · show _ = some (.int .u64 0 : Value); go_simp
      · show _ = some (.int .u64 0 : Value); go_simp
      · show _ = some (.int .i64 0 : Value); go_simp
      · show _ = some (.bool false : Value); go_simp
      · show _ = some (.bool false : Value); go_simp
      · show _ = some (.int .i64 0 : Value); go_simp
      · show _ = some (.int .u64 0 : Value); go_simp
      · show _ = some (.int .u64 0 : Value); go_simp
      · show _ = some (.int .u64 0 : Value); go_simp
      · show _ = some (.int .u64 0 : Value); go_simp
      · show _ = some (.int .i64 0 : Value); go_simp
      · show _ = some (.bool false : Value); go_simp
      · show _ = some (.bool false : Value); go_simp
      · show _ = some (.int .i64 0 : Value); go_simp
      · show _ = some (.int .u64 0 : Value); go_simp
      · show _ = some (.int .u64 0 : Value); go_simp
      · show _ = some (.int .u64 0 : Value); go_simp
      · show _ = some (.int .u64 0 : Value); go_simp
      · show _ = some (.int .i64 0 : Value); go_simp
      · show _ = some (.bool false : Value); go_simp
      · show _ = some (.bool false : Value); go_simp
      · show _ = some (.int .i64 0 : Value); go_simp
      · show _ = some (.int .u64 0 : Value); go_simp
      · show _ = some (.int .u64 0 : Value); go_simp
      · show _ = some (.int .u64 0 : Value); go_simp
      · show _ = some (.int .u64 0 : Value); go_simp
    · go_simp
  case round =>
    obtain ⟨j, hj, rfl, rfl, hR⟩ := hrel
    have hA0 := hR.bel
    have hl0 := hR.lt
    have hs0 := hA0.size
    by_cases h5 : j = 5
    · subst h5
      have kk : ∀ i, i < 40 → wr.cell? ⟨w1.heap.size, i, none⟩ = some (dcl (R (i / 8)) (i % 8)) := fun i hi => by
        have := hR.cel i hi
        rw [show rwD R 5 (i / 8) (i % 8) = dcl (R (i / 8)) (i % 8) from if_pos (by omega)] at this
        exact this
      clear hR c7 c6 c5 c9
      rw [HS5.out]
      have k0 : wr.cell? ⟨w1.heap.size, 0, none⟩ = some (.int .i64 (R 0).c) := kk 0 (by decide)
      have k1 : wr.cell? ⟨w1.heap.size, 1, none⟩ = some (.bool (R 0).s) := kk 1 (by decide)
      have k2 : wr.cell? ⟨w1.heap.size, 2, none⟩ = some (.bool (R 0).g) := kk 2 (by decide)
      have k3 : wr.cell? ⟨w1.heap.size, 3, none⟩ = some (.int .i64 (R 0).x) := kk 3 (by decide)
      have k4 : wr.cell? ⟨w1.heap.size, 4, none⟩ = some (.int .u64 (W4 (R 0).k 0)) := kk 4 (by decide)
      have k5 : wr.cell? ⟨w1.heap.size, 5, none⟩ = some (.int .u64 (W4 (R 0).k 1)) := kk 5 (by decide)
      have k6 : wr.cell? ⟨w1.heap.size, 6, none⟩ = some (.int .u64 (W4 (R 0).k 2)) := kk 6 (by decide)
      have k7 : wr.cell? ⟨w1.heap.size, 7, none⟩ = some (.int .u64 (W4 (R 0).k 3)) := kk 7 (by decide)
      have k8 : wr.cell? ⟨w1.heap.size, 8, none⟩ = some (.int .i64 (R 1).c) := kk 8 (by decide)
      have k9 : wr.cell? ⟨w1.heap.size, 9, none⟩ = some (.bool (R 1).s) := kk 9 (by decide)
      have k10 : wr.cell? ⟨w1.heap.size, 10, none⟩ = some (.bool (R 1).g) := kk 10 (by decide)
      have k11 : wr.cell? ⟨w1.heap.size, 11, none⟩ = some (.int .i64 (R 1).x) := kk 11 (by decide)
      have k12 : wr.cell? ⟨w1.heap.size, 12, none⟩ = some (.int .u64 (W4 (R 1).k 0)) := kk 12 (by decide)
      have k13 : wr.cell? ⟨w1.heap.size, 13, none⟩ = some (.int .u64 (W4 (R 1).k 1)) := kk 13 (by decide)
      have k14 : wr.cell? ⟨w1.heap.size, 14, none⟩ = some (.int .u64 (W4 (R 1).k 2)) := kk 14 (by decide)
      have k15 : wr.cell? ⟨w1.heap.size, 15, none⟩ = some (.int .u64 (W4 (R 1).k 3)) := kk 15 (by decide)
      have k16 : wr.cell? ⟨w1.heap.size, 16, none⟩ = some (.int .i64 (R 2).c) := kk 16 (by decide)
      have k17 : wr.cell? ⟨w1.heap.size, 17, none⟩ = some (.bool (R 2).s) := kk 17 (by decide)
      have k18 : wr.cell? ⟨w1.heap.size, 18, none⟩ = some (.bool (R 2).g) := kk 18 (by decide)
      have k19 : wr.cell? ⟨w1.heap.size, 19, none⟩ = some (.int .i64 (R 2).x) := kk 19 (by decide)
      have k20 : wr.cell? ⟨w1.heap.size, 20, none⟩ = some (.int .u64 (W4 (R 2).k 0)) := kk 20 (by decide)
      have k21 : wr.cell? ⟨w1.heap.size, 21, none⟩ = some (.int .u64 (W4 (R 2).k 1)) := kk 21 (by decide)
      have k22 : wr.cell? ⟨w1.heap.size, 22, none⟩ = some (.int .u64 (W4 (R 2).k 2)) := kk 22 (by decide)
      have k23 : wr.cell? ⟨w1.heap.size, 23, none⟩ = some (.int .u64 (W4 (R 2).k 3)) := kk 23 (by decide)
      have q3 : D8at w1.heap.size 24 (R 3).c (R 3).s (R 3).g (R 3).x (R 3).k wr := fun i hi => by
        have hor : i = 0 ∨ i = 1 ∨ i = 2 ∨ i = 3 ∨ i = 4 ∨ i = 5 ∨ i = 6 ∨ i = 7 := by omega
        rcases hor with rfl | rfl | rfl | rfl | rfl | rfl | rfl | rfl
        · exact kk 24 (by decide)
        · exact kk 25 (by decide)
        · exact kk 26 (by decide)
        · exact kk 27 (by decide)
        · exact kk 28 (by decide)
        · exact kk 29 (by decide)
        · exact kk 30 (by decide)
        · exact kk 31 (by decide)
      have q4 : D8at w1.heap.size 32 (R 4).c (R 4).s (R 4).g (R 4).x (R 4).k wr := fun i hi => by
        have hor : i = 0 ∨ i = 1 ∨ i = 2 ∨ i = 3 ∨ i = 4 ∨ i = 5 ∨ i = 6 ∨ i = 7 := by omega
        rcases hor with rfl | rfl | rfl | rfl | rfl | rfl | rfl | rfl
        · exact kk 32 (by decide)
        · exact kk 33 (by decide)
        · exact kk 34 (by decide)
        · exact kk 35 (by decide)
        · exact kk 36 (by decide)
        · exact kk 37 (by decide)
        · exact kk 38 (by decide)
        · exact kk 39 (by decide)
      clear kk
      go_wp2
      refine regS14 (h11 := w1.heap.size) rfl rfl hl0 q4 q3 ?_
      clear q3 q4
      intro a' w4 g h e17 e18 hne hg hh hD1 hD2 hsz' hdf hFr hb4
      have ha := act_of slotsS14 7 rfl hsz' hdf hFr
      rw [ha]
      simp only [slotsS14, List.foldl_cons, List.foldl_nil, Act.put, List.setIfInBounds_toArray, List.set_cons_succ, List.set_cons_zero, e17, e18]
      generalize slot a' 66 = s66
      generalize slot a' 67 = s67
      generalize slot a' 68 = s68
      generalize slot a' 69 = s69
      generalize slot a' 100 = s100
      clear ha e17 e18 hsz' hdf hFr
      replace k0 := (hb4.cell (p := ⟨w1.heap.size, 0, none⟩) hl0).trans k0
      replace k1 := (hb4.cell (p := ⟨w1.heap.size, 1, none⟩) hl0).trans k1
      replace k2 := (hb4.cell (p := ⟨w1.heap.size, 2, none⟩) hl0).trans k2
      replace k3 := (hb4.cell (p := ⟨w1.heap.size, 3, none⟩) hl0).trans k3
      replace k4 := (hb4.cell (p := ⟨w1.heap.size, 4, none⟩) hl0).trans k4
      replace k5 := (hb4.cell (p := ⟨w1.heap.size, 5, none⟩) hl0).trans k5
      replace k6 := (hb4.cell (p := ⟨w1.heap.size, 6, none⟩) hl0).trans k6
      replace k7 := (hb4.cell (p := ⟨w1.heap.size, 7, none⟩) hl0).trans k7
      replace k8 := (hb4.cell (p := ⟨w1.heap.size, 8, none⟩) hl0).trans k8
      replace k9 := (hb4.cell (p := ⟨w1.heap.size, 9, none⟩) hl0).trans k9
      replace k10 := (hb4.cell (p := ⟨w1.heap.size, 10, none⟩) hl0).trans k10
      replace k11 := (hb4.cell (p := ⟨w1.heap.size, 11, none⟩) hl0).trans k11
      replace k12 := (hb4.cell (p := ⟨w1.heap.size, 12, none⟩) hl0).trans k12
      replace k13 := (hb4.cell (p := ⟨w1.heap.size, 13, none⟩) hl0).trans k13
      replace k14 := (hb4.cell (p := ⟨w1.heap.size, 14, none⟩) hl0).trans k14
      replace k15 := (hb4.cell (p := ⟨w1.heap.size, 15, none⟩) hl0).trans k15
      replace k16 := (hb4.cell (p := ⟨w1.heap.size, 16, none⟩) hl0).trans k16
      replace k17 := (hb4.cell (p := ⟨w1.heap.size, 17, none⟩) hl0).trans k17
      replace k18 := (hb4.cell (p := ⟨w1.heap.size, 18, none⟩) hl0).trans k18
      replace k19 := (hb4.cell (p := ⟨w1.heap.size, 19, none⟩) hl0).trans k19
      replace k20 := (hb4.cell (p := ⟨w1.heap.size, 20, none⟩) hl0).trans k20
      replace k21 := (hb4.cell (p := ⟨w1.heap.size, 21, none⟩) hl0).trans k21
      replace k22 := (hb4.cell (p := ⟨w1.heap.size, 22, none⟩) hl0).trans k22
      replace k23 := (hb4.cell (p := ⟨w1.heap.size, 23, none⟩) hl0).trans k23
      have hl4 : w1.heap.size < w4.heap.size := Nat.lt_of_lt_of_le hl0 hb4.size
      have hA4 := bnext (w0 := w) hA0 hb4
      have hs4 := hA4.size
      have hg1 : w1.heap.size ≠ g := by omega
      have hg2 : w1.heap.size ≠ h := by omega
      have hgw : w.heap.size ≤ g := by omega
      have hhw : w.heap.size ≤ h := by omega
      clear hb4
      have hBl := hD1
      have hBu := hD2
      have hA5 := hA4
      clear hD1 hD2
      clear hg hh hg1 hg2 hgw hhw
      obtain ⟨hH, h22, h00, h11⟩ := HHH.out
      have eLH := dat_eqF (hk 4) (hk 3) hH
      have e2L := dat_eqT h22
      obtain ⟨g0, g1, g2, g3, g4, g5, g6, g7⟩ := hBl.cells
      obtain ⟨i0, i1, i2, i3, i4, i5, i6, i7⟩ := hBu.cells
      clear hBl hBu hH h22
      by_cases z0 : R 0 = R 4
      · by_cases z1 : R 1 = R 4
        · have e0L := dat_eqT z0
          have e1L := dat_eqT z1
          clear z0 z1 h00 h11 hk
          go_wp2
          go_ret
          exact ⟨by simp, hA5⟩
        · have e0L := dat_eqT z0
          have e1L := dat_eqF (hk 1) (hk 4) z1
          have e1H := dat_eqT (h11.resolve_left z1)
          clear z0 z1 h00 h11 hk
          go_wp2
          go_ret
          exact ⟨by simp, hA5⟩
      · by_cases z1 : R 1 = R 4
        · have e0L := dat_eqF (hk 0) (hk 4) z0
          have e0H := dat_eqT (h00.resolve_left z0)
          have e1L := dat_eqT z1
          clear z0 z1 h00 h11 hk
          go_wp2
          go_ret
          exact ⟨by simp, hA5⟩
        · have e0L := dat_eqF (hk 0) (hk 4) z0
          have e0H := dat_eqT (h00.resolve_left z0)
          have e1L := dat_eqF (hk 1) (hk 4) z1
          have e1H := dat_eqT (h11.resolve_left z1)
          clear z0 z1 h00 h11 hk
          go_wp2
          go_ret
          exact ⟨by simp, hA5⟩
    · have hor : j = 0 ∨ j = 1 ∨ j = 2 ∨ j = 3 ∨ j = 4 := by omega
      rcases hor with rfl | rfl | rfl | rfl | rfl
      · have k0 : wr.cell? ⟨w1.heap.size, 0, none⟩ = some (.int .i64 0) := hR.cel 0 (by decide)
        have k1 : wr.cell? ⟨w1.heap.size, 1, none⟩ = some (.bool false) := hR.cel 1 (by decide)
        have k2 : wr.cell? ⟨w1.heap.size, 2, none⟩ = some (.bool false) := hR.cel 2 (by decide)
        have k3 : wr.cell? ⟨w1.heap.size, 3, none⟩ = some (.int .i64 0) := hR.cel 3 (by decide)
        have k4 : wr.cell? ⟨w1.heap.size, 4, none⟩ = some (.int .u64 0) := hR.cel 4 (by decide)
        have k5 : wr.cell? ⟨w1.heap.size, 5, none⟩ = some (.int .u64 0) := hR.cel 5 (by decide)
        have k6 : wr.cell? ⟨w1.heap.size, 6, none⟩ = some (.int .u64 0) := hR.cel 6 (by decide)
        have k7 : wr.cell? ⟨w1.heap.size, 7, none⟩ = some (.int .u64 0) := hR.cel 7 (by decide)
        have f0 : wr.frozen? ⟨w1.heap.size, 0, none⟩ = false := hR.fro 0 (by decide)
        have f1 : wr.frozen? ⟨w1.heap.size, 1, none⟩ = false := hR.fro 1 (by decide)
        have f2 : wr.frozen? ⟨w1.heap.size, 2, none⟩ = false := hR.fro 2 (by decide)
        have f3 : wr.frozen? ⟨w1.heap.size, 3, none⟩ = false := hR.fro 3 (by decide)
        have f4 : wr.frozen? ⟨w1.heap.size, 4, none⟩ = false := hR.fro 4 (by decide)
        have f5 : wr.frozen? ⟨w1.heap.size, 5, none⟩ = false := hR.fro 5 (by decide)
        have f6 : wr.frozen? ⟨w1.heap.size, 6, none⟩ = false := hR.fro 6 (by decide)
        have f7 : wr.frozen? ⟨w1.heap.size, 7, none⟩ = false := hR.fro 7 (by decide)
        have hFj := hF 0
        have hq1 : 0 ≤ (F 0).tdiv 8 := Int.tdiv_nonneg hFj.1 (by decide)
        have hq2 : (F 0).tdiv 8 ≤ 100 := by rw [Int.tdiv_eq_ediv_of_nonneg hFj.1]; omega
        have hm1 := smD_bd hF 0
        have c7j := fun W hW hW' => c7 0 W (by decide) hW hW'
        have HR : Hid (DdW w w1.heap.size R 0 wr) := hR
        have HS : Hid (smD F 1 = smD F 0 + (F 0).tdiv 8) := rfl
        generalize smD F 0 = sm at *
        clear hR
        go_wp2_with (first
          | (go_at_call 8; refine (c7j _ (hTT _ _ hT bgo) bgo).mono ?_; rintro r w3 ⟨rfl, hb3⟩; obtain ⟨hc3, hf3⟩ := bcell hb3; have hz3_0 : w1.heap.size < w3.heap.size := lt_below hb3 ltg; have hl3_0 := Nat.le_of_lt hz3_0; have hA3 := bnext (w0 := w) bgo hb3; have hs3 := hA3.size; clear hb3))
        go_round
        case rel =>
          have hfr := HR.out.fro
          have hce := HR.out.cel
          refine ⟨1, by decide, rfl, by rw [HS.out], bgo, by simp; omega, hs1, fun i hi => ?_, fun i hi => ?_⟩
          · by_cases hor : i = 0 ∨ i = 1 ∨ i = 2 ∨ i = 3 ∨ i = 4 ∨ i = 5 ∨ i = 6 ∨ i = 7
            · rcases hor with rfl | rfl | rfl | rfl | rfl | rfl | rfl | rfl
              · show _ = some (.int .i64 (R 0).c : Value); go_simp
              · show _ = some (.bool (R 0).s : Value); go_simp
              · show _ = some (.bool (R 0).g : Value); go_simp
              · show _ = some (.int .i64 (R 0).x : Value); go_simp
              · show _ = some (.int .u64 (W4 (R 0).k 0) : Value); go_simp
              · show _ = some (.int .u64 (W4 (R 0).k 1) : Value); go_simp
              · show _ = some (.int .u64 (W4 (R 0).k 2) : Value); go_simp
              · show _ = some (.int .u64 (W4 (R 0).k 3) : Value); go_simp
            · have hki := hce i hi
              rw [show rwD R 1 (i / 8) (i % 8) = rwD R 0 (i / 8) (i % 8) by unfold rwD; by_cases q : i / 8 < 0; (rw [if_pos q, if_pos (by omega)]); (rw [if_neg q, if_neg (by omega)])]
              clear hce hfr
              have n0 : ¬ i = 0 := by omega
              have n1 : ¬ i = 1 := by omega
              have n2 : ¬ i = 2 := by omega
              have n3 : ¬ i = 3 := by omega
              have n4 : ¬ i = 4 := by omega
              have n5 : ¬ i = 5 := by omega
              have n6 : ¬ i = 6 := by omega
              have n7 : ¬ i = 7 := by omega
              go_simp
          · have hfi := hfr i hi
            clear hfr hce
            go_simp
        case measure => simp [intOf]
      · have k8 : wr.cell? ⟨w1.heap.size, 8, none⟩ = some (.int .i64 0) := hR.cel 8 (by decide)
        have k9 : wr.cell? ⟨w1.heap.size, 9, none⟩ = some (.bool false) := hR.cel 9 (by decide)
        have k10 : wr.cell? ⟨w1.heap.size, 10, none⟩ = some (.bool false) := hR.cel 10 (by decide)
        have k11 : wr.cell? ⟨w1.heap.size, 11, none⟩ = some (.int .i64 0) := hR.cel 11 (by decide)
        have k12 : wr.cell? ⟨w1.heap.size, 12, none⟩ = some (.int .u64 0) := hR.cel 12 (by decide)
        have k13 : wr.cell? ⟨w1.heap.size, 13, none⟩ = some (.int .u64 0) := hR.cel 13 (by decide)
        have k14 : wr.cell? ⟨w1.heap.size, 14, none⟩ = some (.int .u64 0) := hR.cel 14 (by decide)
        have k15 : wr.cell? ⟨w1.heap.size, 15, none⟩ = some (.int .u64 0) := hR.cel 15 (by decide)
        have f8 : wr.frozen? ⟨w1.heap.size, 8, none⟩ = false := hR.fro 8 (by decide)
        have f9 : wr.frozen? ⟨w1.heap.size, 9, none⟩ = false := hR.fro 9 (by decide)
        have f10 : wr.frozen? ⟨w1.heap.size, 10, none⟩ = false := hR.fro 10 (by decide)
        have f11 : wr.frozen? ⟨w1.heap.size, 11, none⟩ = false := hR.fro 11 (by decide)
        have f12 : wr.frozen? ⟨w1.heap.size, 12, none⟩ = false := hR.fro 12 (by decide)
        have f13 : wr.frozen? ⟨w1.heap.size, 13, none⟩ = false := hR.fro 13 (by decide)
        have f14 : wr.frozen? ⟨w1.heap.size, 14, none⟩ = false := hR.fro 14 (by decide)
        have f15 : wr.frozen? ⟨w1.heap.size, 15, none⟩ = false := hR.fro 15 (by decide)
        have hFj := hF 1
        have hq1 : 0 ≤ (F 1).tdiv 8 := Int.tdiv_nonneg hFj.1 (by decide)
        have hq2 : (F 1).tdiv 8 ≤ 100 := by rw [Int.tdiv_eq_ediv_of_nonneg hFj.1]; omega
        have hm1 := smD_bd hF 1
        have c7j := fun W hW hW' => c7 1 W (by decide) hW hW'
        have HR : Hid (DdW w w1.heap.size R 1 wr) := hR
        have HS : Hid (smD F 2 = smD F 1 + (F 1).tdiv 8) := rfl
        generalize smD F 1 = sm at *
        clear hR
        go_wp2_with (first
          | (go_at_call 8; refine (c7j _ (hTT _ _ hT bgo) bgo).mono ?_; rintro r w3 ⟨rfl, hb3⟩; obtain ⟨hc3, hf3⟩ := bcell hb3; have hz3_0 : w1.heap.size < w3.heap.size := lt_below hb3 ltg; have hl3_0 := Nat.le_of_lt hz3_0; have hA3 := bnext (w0 := w) bgo hb3; have hs3 := hA3.size; clear hb3))
        go_round
        case rel =>
          have hfr := HR.out.fro
          have hce := HR.out.cel
          refine ⟨2, by decide, rfl, by rw [HS.out], bgo, by simp; omega, hs1, fun i hi => ?_, fun i hi => ?_⟩
          · by_cases hor : i = 8 ∨ i = 9 ∨ i = 10 ∨ i = 11 ∨ i = 12 ∨ i = 13 ∨ i = 14 ∨ i = 15
            · rcases hor with rfl | rfl | rfl | rfl | rfl | rfl | rfl | rfl
              · show _ = some (.int .i64 (R 1).c : Value); go_simp
              · show _ = some (.bool (R 1).s : Value); go_simp
              · show _ = some (.bool (R 1).g : Value); go_simp
              · show _ = some (.int .i64 (R 1).x : Value); go_simp
              · show _ = some (.int .u64 (W4 (R 1).k 0) : Value); go_simp
              · show _ = some (.int .u64 (W4 (R 1).k 1) : Value); go_simp
              · show _ = some (.int .u64 (W4 (R 1).k 2) : Value); go_simp
              · show _ = some (.int .u64 (W4 (R 1).k 3) : Value); go_simp
            · have hki := hce i hi
              rw [show rwD R 2 (i / 8) (i % 8) = rwD R 1 (i / 8) (i % 8) by unfold rwD; by_cases q : i / 8 < 1; (rw [if_pos q, if_pos (by omega)]); (rw [if_neg q, if_neg (by omega)])]
              clear hce hfr
              have n0 : ¬ i = 8 := by omega
              have n1 : ¬ i = 9 := by omega
              have n2 : ¬ i = 10 := by omega
              have n3 : ¬ i = 11 := by omega
              have n4 : ¬ i = 12 := by omega
              have n5 : ¬ i = 13 := by omega
              have n6 : ¬ i = 14 := by omega
              have n7 : ¬ i = 15 := by omega
              go_simp
          · have hfi := hfr i hi
            clear hfr hce
            go_simp
        case measure => simp [intOf]
      · have k16 : wr.cell? ⟨w1.heap.size, 16, none⟩ = some (.int .i64 0) := hR.cel 16 (by decide)
        have k17 : wr.cell? ⟨w1.heap.size, 17, none⟩ = some (.bool false) := hR.cel 17 (by decide)
        have k18 : wr.cell? ⟨w1.heap.size, 18, none⟩ = some (.bool false) := hR.cel 18 (by decide)
        have k19 : wr.cell? ⟨w1.heap.size, 19, none⟩ = some (.int .i64 0) := hR.cel 19 (by decide)
        have k20 : wr.cell? ⟨w1.heap.size, 20, none⟩ = some (.int .u64 0) := hR.cel 20 (by decide)
        have k21 : wr.cell? ⟨w1.heap.size, 21, none⟩ = some (.int .u64 0) := hR.cel 21 (by decide)
        have k22 : wr.cell? ⟨w1.heap.size, 22, none⟩ = some (.int .u64 0) := hR.cel 22 (by decide)
        have k23 : wr.cell? ⟨w1.heap.size, 23, none⟩ = some (.int .u64 0) := hR.cel 23 (by decide)
        have f16 : wr.frozen? ⟨w1.heap.size, 16, none⟩ = false := hR.fro 16 (by decide)
        have f17 : wr.frozen? ⟨w1.heap.size, 17, none⟩ = false := hR.fro 17 (by decide)
        have f18 : wr.frozen? ⟨w1.heap.size, 18, none⟩ = false := hR.fro 18 (by decide)
        have f19 : wr.frozen? ⟨w1.heap.size, 19, none⟩ = false := hR.fro 19 (by decide)
        have f20 : wr.frozen? ⟨w1.heap.size, 20, none⟩ = false := hR.fro 20 (by decide)
        have f21 : wr.frozen? ⟨w1.heap.size, 21, none⟩ = false := hR.fro 21 (by decide)
        have f22 : wr.frozen? ⟨w1.heap.size, 22, none⟩ = false := hR.fro 22 (by decide)
        have f23 : wr.frozen? ⟨w1.heap.size, 23, none⟩ = false := hR.fro 23 (by decide)
        have hFj := hF 2
        have hq1 : 0 ≤ (F 2).tdiv 8 := Int.tdiv_nonneg hFj.1 (by decide)
        have hq2 : (F 2).tdiv 8 ≤ 100 := by rw [Int.tdiv_eq_ediv_of_nonneg hFj.1]; omega
        have hm1 := smD_bd hF 2
        have c7j := fun W hW hW' => c7 2 W (by decide) hW hW'
        have HR : Hid (DdW w w1.heap.size R 2 wr) := hR
        have HS : Hid (smD F 3 = smD F 2 + (F 2).tdiv 8) := rfl
        generalize smD F 2 = sm at *
        clear hR
        go_wp2_with (first
          | (go_at_call 8; refine (c7j _ (hTT _ _ hT bgo) bgo).mono ?_; rintro r w3 ⟨rfl, hb3⟩; obtain ⟨hc3, hf3⟩ := bcell hb3; have hz3_0 : w1.heap.size < w3.heap.size := lt_below hb3 ltg; have hl3_0 := Nat.le_of_lt hz3_0; have hA3 := bnext (w0 := w) bgo hb3; have hs3 := hA3.size; clear hb3))
        go_round
        case rel =>
          have hfr := HR.out.fro
          have hce := HR.out.cel
          refine ⟨3, by decide, rfl, by rw [HS.out], bgo, by simp; omega, hs1, fun i hi => ?_, fun i hi => ?_⟩
          · by_cases hor : i = 16 ∨ i = 17 ∨ i = 18 ∨ i = 19 ∨ i = 20 ∨ i = 21 ∨ i = 22 ∨ i = 23
            · rcases hor with rfl | rfl | rfl | rfl | rfl | rfl | rfl | rfl
              · show _ = some (.int .i64 (R 2).c : Value); go_simp
              · show _ = some (.bool (R 2).s : Value); go_simp
              · show _ = some (.bool (R 2).g : Value); go_simp
              · show _ = some (.int .i64 (R 2).x : Value); go_simp
              · show _ = some (.int .u64 (W4 (R 2).k 0) : Value); go_simp
              · show _ = some (.int .u64 (W4 (R 2).k 1) : Value); go_simp
              · show _ = some (.int .u64 (W4 (R 2).k 2) : Value); go_simp
              · show _ = some (.int .u64 (W4 (R 2).k 3) : Value); go_simp
            · have hki := hce i hi
              rw [show rwD R 3 (i / 8) (i % 8) = rwD R 2 (i / 8) (i % 8) by unfold rwD; by_cases q : i / 8 < 2; (rw [if_pos q, if_pos (by omega)]); (rw [if_neg q, if_neg (by omega)])]
              clear hce hfr
              have n0 : ¬ i = 16 := by omega
              have n1 : ¬ i = 17 := by omega
              have n2 : ¬ i = 18 := by omega
              have n3 : ¬ i = 19 := by omega
              have n4 : ¬ i = 20 := by omega
              have n5 : ¬ i = 21 := by omega
              have n6 : ¬ i = 22 := by omega
              have n7 : ¬ i = 23 := by omega
              go_simp
          · have hfi := hfr i hi
            clear hfr hce
            go_simp
        case measure => simp [intOf]
      · have k24 : wr.cell? ⟨w1.heap.size, 24, none⟩ = some (.int .i64 0) := hR.cel 24 (by decide)
        have k25 : wr.cell? ⟨w1.heap.size, 25, none⟩ = some (.bool false) := hR.cel 25 (by decide)
        have k26 : wr.cell? ⟨w1.heap.size, 26, none⟩ = some (.bool false) := hR.cel 26 (by decide)
        have k27 : wr.cell? ⟨w1.heap.size, 27, none⟩ = some (.int .i64 0) := hR.cel 27 (by decide)
        have k28 : wr.cell? ⟨w1.heap.size, 28, none⟩ = some (.int .u64 0) := hR.cel 28 (by decide)
        have k29 : wr.cell? ⟨w1.heap.size, 29, none⟩ = some (.int .u64 0) := hR.cel 29 (by decide)
        have k30 : wr.cell? ⟨w1.heap.size, 30, none⟩ = some (.int .u64 0) := hR.cel 30 (by decide)
        have k31 : wr.cell? ⟨w1.heap.size, 31, none⟩ = some (.int .u64 0) := hR.cel 31 (by decide)
        have f24 : wr.frozen? ⟨w1.heap.size, 24, none⟩ = false := hR.fro 24 (by decide)
        have f25 : wr.frozen? ⟨w1.heap.size, 25, none⟩ = false := hR.fro 25 (by decide)
        have f26 : wr.frozen? ⟨w1.heap.size, 26, none⟩ = false := hR.fro 26 (by decide)
        have f27 : wr.frozen? ⟨w1.heap.size, 27, none⟩ = false := hR.fro 27 (by decide)
        have f28 : wr.frozen? ⟨w1.heap.size, 28, none⟩ = false := hR.fro 28 (by decide)
        have f29 : wr.frozen? ⟨w1.heap.size, 29, none⟩ = false := hR.fro 29 (by decide)
        have f30 : wr.frozen? ⟨w1.heap.size, 30, none⟩ = false := hR.fro 30 (by decide)
        have f31 : wr.frozen? ⟨w1.heap.size, 31, none⟩ = false := hR.fro 31 (by decide)
        have hFj := hF 3
        have hq1 : 0 ≤ (F 3).tdiv 8 := Int.tdiv_nonneg hFj.1 (by decide)
        have hq2 : (F 3).tdiv 8 ≤ 100 := by rw [Int.tdiv_eq_ediv_of_nonneg hFj.1]; omega
        have hm1 := smD_bd hF 3
        have c7j := fun W hW hW' => c7 3 W (by decide) hW hW'
        have HR : Hid (DdW w w1.heap.size R 3 wr) := hR
        have HS : Hid (smD F 4 = smD F 3 + (F 3).tdiv 8) := rfl
        generalize smD F 3 = sm at *
        clear hR
        go_wp2_with (first
          | (go_at_call 8; refine (c7j _ (hTT _ _ hT bgo) bgo).mono ?_; rintro r w3 ⟨rfl, hb3⟩; obtain ⟨hc3, hf3⟩ := bcell hb3; have hz3_0 : w1.heap.size < w3.heap.size := lt_below hb3 ltg; have hl3_0 := Nat.le_of_lt hz3_0; have hA3 := bnext (w0 := w) bgo hb3; have hs3 := hA3.size; clear hb3))
        go_round
        case rel =>
          have hfr := HR.out.fro
          have hce := HR.out.cel
          refine ⟨4, by decide, rfl, by rw [HS.out], bgo, by simp; omega, hs1, fun i hi => ?_, fun i hi => ?_⟩
          · by_cases hor : i = 24 ∨ i = 25 ∨ i = 26 ∨ i = 27 ∨ i = 28 ∨ i = 29 ∨ i = 30 ∨ i = 31
            · rcases hor with rfl | rfl | rfl | rfl | rfl | rfl | rfl | rfl
              · show _ = some (.int .i64 (R 3).c : Value); go_simp
              · show _ = some (.bool (R 3).s : Value); go_simp
              · show _ = some (.bool (R 3).g : Value); go_simp
              · show _ = some (.int .i64 (R 3).x : Value); go_simp
              · show _ = some (.int .u64 (W4 (R 3).k 0) : Value); go_simp
              · show _ = some (.int .u64 (W4 (R 3).k 1) : Value); go_simp
              · show _ = some (.int .u64 (W4 (R 3).k 2) : Value); go_simp
              · show _ = some (.int .u64 (W4 (R 3).k 3) : Value); go_simp
            · have hki := hce i hi
              rw [show rwD R 4 (i / 8) (i % 8) = rwD R 3 (i / 8) (i % 8) by unfold rwD; by_cases q : i / 8 < 3; (rw [if_pos q, if_pos (by omega)]); (rw [if_neg q, if_neg (by omega)])]
              clear hce hfr
              have n0 : ¬ i = 24 := by omega
              have n1 : ¬ i = 25 := by omega
              have n2 : ¬ i = 26 := by omega
              have n3 : ¬ i = 27 := by omega
              have n4 : ¬ i = 28 := by omega
              have n5 : ¬ i = 29 := by omega
              have n6 : ¬ i = 30 := by omega
              have n7 : ¬ i = 31 := by omega
              go_simp
          · have hfi := hfr i hi
            clear hfr hce
            go_simp
        case measure => simp [intOf]
      · have k32 : wr.cell? ⟨w1.heap.size, 32, none⟩ = some (.int .i64 0) := hR.cel 32 (by decide)
        have k33 : wr.cell? ⟨w1.heap.size, 33, none⟩ = some (.bool false) := hR.cel 33 (by decide)
        have k34 : wr.cell? ⟨w1.heap.size, 34, none⟩ = some (.bool false) := hR.cel 34 (by decide)
        have k35 : wr.cell? ⟨w1.heap.size, 35, none⟩ = some (.int .i64 0) := hR.cel 35 (by decide)
        have k36 : wr.cell? ⟨w1.heap.size, 36, none⟩ = some (.int .u64 0) := hR.cel 36 (by decide)
        have k37 : wr.cell? ⟨w1.heap.size, 37, none⟩ = some (.int .u64 0) := hR.cel 37 (by decide)
        have k38 : wr.cell? ⟨w1.heap.size, 38, none⟩ = some (.int .u64 0) := hR.cel 38 (by decide)
        have k39 : wr.cell? ⟨w1.heap.size, 39, none⟩ = some (.int .u64 0) := hR.cel 39 (by decide)
        have f32 : wr.frozen? ⟨w1.heap.size, 32, none⟩ = false := hR.fro 32 (by decide)
        have f33 : wr.frozen? ⟨w1.heap.size, 33, none⟩ = false := hR.fro 33 (by decide)
        have f34 : wr.frozen? ⟨w1.heap.size, 34, none⟩ = false := hR.fro 34 (by decide)
        have f35 : wr.frozen? ⟨w1.heap.size, 35, none⟩ = false := hR.fro 35 (by decide)
        have f36 : wr.frozen? ⟨w1.heap.size, 36, none⟩ = false := hR.fro 36 (by decide)
        have f37 : wr.frozen? ⟨w1.heap.size, 37, none⟩ = false := hR.fro 37 (by decide)
        have f38 : wr.frozen? ⟨w1.heap.size, 38, none⟩ = false := hR.fro 38 (by decide)
        have f39 : wr.frozen? ⟨w1.heap.size, 39, none⟩ = false := hR.fro 39 (by decide)
        have hFj := hF 4
        have hq1 : 0 ≤ (F 4).tdiv 8 := Int.tdiv_nonneg hFj.1 (by decide)
        have hq2 : (F 4).tdiv 8 ≤ 100 := by rw [Int.tdiv_eq_ediv_of_nonneg hFj.1]; omega
        have hm1 := smD_bd hF 4
        have c7j := fun W hW hW' => c7 4 W (by decide) hW hW'
        have HR : Hid (DdW w w1.heap.size R 4 wr) := hR
        have HS : Hid (smD F 5 = smD F 4 + (F 4).tdiv 8) := rfl
        generalize smD F 4 = sm at *
        clear hR
        go_wp2_with (first
          | (go_at_call 8; refine (c7j _ (hTT _ _ hT bgo) bgo).mono ?_; rintro r w3 ⟨rfl, hb3⟩; obtain ⟨hc3, hf3⟩ := bcell hb3; have hz3_0 : w1.heap.size < w3.heap.size := lt_below hb3 ltg; have hl3_0 := Nat.le_of_lt hz3_0; have hA3 := bnext (w0 := w) bgo hb3; have hs3 := hA3.size; clear hb3))
        go_round
        case rel =>
          have hfr := HR.out.fro
          have hce := HR.out.cel
          refine ⟨5, by decide, rfl, by rw [HS.out], bgo, by simp; omega, hs1, fun i hi => ?_, fun i hi => ?_⟩
          · by_cases hor : i = 32 ∨ i = 33 ∨ i = 34 ∨ i = 35 ∨ i = 36 ∨ i = 37 ∨ i = 38 ∨ i = 39
            · rcases hor with rfl | rfl | rfl | rfl | rfl | rfl | rfl | rfl
              · show _ = some (.int .i64 (R 4).c : Value); go_simp
              · show _ = some (.bool (R 4).s : Value); go_simp
              · show _ = some (.bool (R 4).g : Value); go_simp
              · show _ = some (.int .i64 (R 4).x : Value); go_simp
              · show _ = some (.int .u64 (W4 (R 4).k 0) : Value); go_simp
              · show _ = some (.int .u64 (W4 (R 4).k 1) : Value); go_simp
              · show _ = some (.int .u64 (W4 (R 4).k 2) : Value); go_simp
              · show _ = some (.int .u64 (W4 (R 4).k 3) : Value); go_simp
            · have hki := hce i hi
              rw [show rwD R 5 (i / 8) (i % 8) = rwD R 4 (i / 8) (i % 8) by unfold rwD; by_cases q : i / 8 < 4; (rw [if_pos q, if_pos (by omega)]); (rw [if_neg q, if_neg (by omega)])]
              clear hce hfr
              have n0 : ¬ i = 32 := by omega
              have n1 : ¬ i = 33 := by omega
              have n2 : ¬ i = 34 := by omega
              have n3 : ¬ i = 35 := by omega
              have n4 : ¬ i = 36 := by omega
              have n5 : ¬ i = 37 := by omega
              have n6 : ¬ i = 38 := by omega
              have n7 : ¬ i = 39 := by omega
              go_simp
          · have hfi := hfr i hi
            clear hfr hce
            go_simp
        case measure => simp [intOf]
set_option maxHeartbeats 8000000 in
theorem dsd_Bt (hsb : s = true) (hs5 : smD F 5 = 5) (hH : R 3 ≠ R 4) (h22 : R 2 = R 3) (h00 : R 0 = R 3 ∨ R 0 = R 4) (h11 : R 1 = R 3 ∨ R 1 = R 4) :
    Calls Tryd.prog 4 #[.int .i64 n, .bool s, .slice an kn cn, .slice ad kd cd, .int .i64 x] w fun r w' => r = .returned (.bool true) ∧ Below w.heap.size w w' := by
  subst hsb
  have HHH : Hid (R 3 ≠ R 4 ∧ R 2 = R 3 ∧ (R 0 = R 3 ∨ R 0 = R 4) ∧ (R 1 = R 3 ∨ R 1 = R 4)) := ⟨hH, h22, h00, h11⟩
  clear hH h22 h00 h11
  have HS5 : Hid (smD F 5 = 5) := hs5
  clear hs5
  have HT0 : Hid (TT w) := hT
  have hsm := cell_set_map
  go_enter Tryd.func4, Tryd.ntmps4
  go_wp2_with (first
    | (go_at_call 7; refine (c9 _ hT).mono ?_; rintro r w1 ⟨rfl, hb1⟩; obtain ⟨hc1, hf1⟩ := bcell hb1; have hA1 := bnext (w0 := w) bgo hb1; have hs1 := hA1.size; clear hb1)
    | (go_at_call 10; refine (c5 _).mono ?_; rintro r w2 ⟨rfl, rfl⟩)
    | (go_at_call 11; refine (c6 _ bgo).mono ?_; rintro r w2 ⟨rfl, rfl⟩))
  go_loopw [12, 42] (fun t12 t42 wr => ∃ j : Nat, j ≤ 5 ∧ t42 = .int .i64 (j : Int) ∧ t12 = .int .i64 (smD F j) ∧ DdW w w1.heap.size R j wr) (fun _ t42 _ => 5 - (intOf t42).toNat)
  case atStart =>
    refine ⟨0, by decide, rfl, rfl, bgo, by simp, hs1, fun i hi => ?_, fun i hi => ?_⟩
    · rw [show rwD R 0 (i / 8) (i % 8) = dcz (i % 8) from if_neg (by omega)]
      have hor : i = 0 ∨ i = 1 ∨ i = 2 ∨ i = 3 ∨ i = 4 ∨ i = 5 ∨ i = 6 ∨ i = 7 ∨ i = 8 ∨ i = 9 ∨ i = 10 ∨ i = 11 ∨ i = 12 ∨ i = 13 ∨ i = 14 ∨ i = 15 ∨ i = 16 ∨ i = 17 ∨ i = 18 ∨ i = 19 ∨ i = 20 ∨ i = 21 ∨ i = 22 ∨ i = 23 ∨ i = 24 ∨ i = 25 ∨ i = 26 ∨ i = 27 ∨ i = 28 ∨ i = 29 ∨ i = 30 ∨ i = 31 ∨ i = 32 ∨ i = 33 ∨ i = 34 ∨ i = 35 ∨ i = 36 ∨ i = 37 ∨ i = 38 ∨ i = 39 := by omega
      rcases hor with rfl | rfl | rfl | rfl | rfl | rfl | rfl | rfl | rfl | rfl | rfl | rfl | rfl | rfl | rfl | rfl | rfl | rfl | rfl | rfl | rfl | rfl | rfl | rfl | rfl | rfl | rfl | rfl | rfl | rfl | rfl | rfl | rfl | rfl | rfl | rfl | rfl | rfl | rfl | rfl
      · show _ = some (.int .i64 0 : Value); go_simp
      · show _ = some (.bool false : Value); go_simp
      · show _ = some (.bool false : Value); go_simp
      · show _ = some (.int .i64 0 : Value); go_simp
      · show _ = some (.int .u64 0 : Value); go_simp
      · show _ = some (.int .u64 0 : Value); go_simp
      · show _ = some (.int .u64 0 : Value); go_simp
      · show _ = some (.int .u64 0 : Value); go_simp
      · show _ = some (.int .i64 0 : Value); go_simp
      · show _ = some (.bool false : Value); go_simp
      · show _ = some (.bool false : Value); go_simp
      · show _ = some (.int .i64 0 : Value); go_simp
      · show _ = some (.int .u64 0 : Value); go_simp
      · show _ = some (.int .u64 0 : Value); go_simp
      · show _ = some (.int .u64 0 : Value); go_simp
      · show _ = some (.int .u64 0 : Value); go_simp
      · show _ = some (.int .i64 0 : Value); go_simp
      · show _ = some (.bool false : Value); go_simp
      · show _ = some (.bool false : Value); go_simp
      · show _ = some (.int .i64 0 : Value); go_simp
      · show _ = some (.int .u64 0 : Value); go_simp
      · show _ = some (.int .u64 0 : Value); go_simp
      · show _ = some (.int .u64 0 : Value); go_simp
      · show _ = some (.int .u64 0 : Value); go_simp
      · show _ = some (.int .i64 0 : Value); go_simp
      · show _ = some (.bool false : Value); go_simp
      · show _ = some (.bool false : Value); go_simp
      · show _ = some (.int .i64 0 : Value); go_simp
      · show _ = some (.int .u64 0 : Value); go_simp
      · show _ = some (.int .u64 0 : Value); go_simp
      · show _ = some (.int .u64 0 : Value); go_simp
      · show _ = some (.int .u64 0 : Value); go_simp
      · show _ = some (.int .i64 0 : Value); go_simp
      · show _ = some (.bool false : Value); go_simp
      · show _ = some (.bool false : Value); go_simp
      · show _ = some (.int .i64 0 : Value); go_simp
      · show _ = some (.int .u64 0 : Value); go_simp
      · show _ = some (.int .u64 0 : Value); go_simp
      · show _ = some (.int .u64 0 : Value); go_simp
      · show _ = some (.int .u64 0 : Value); go_simp
    · go_simp
  case round =>
    obtain ⟨j, hj, rfl, rfl, hR⟩ := hrel
    have hA0 := hR.bel
    have hl0 := hR.lt
    have hs0 := hA0.size
    by_cases h5 : j = 5
    · subst h5
      have kk : ∀ i, i < 40 → wr.cell? ⟨w1.heap.size, i, none⟩ = some (dcl (R (i / 8)) (i % 8)) := fun i hi => by
        have := hR.cel i hi
        rw [show rwD R 5 (i / 8) (i % 8) = dcl (R (i / 8)) (i % 8) from if_pos (by omega)] at this
        exact this
      clear hR c7 c6 c5 c9
      rw [HS5.out]
      have k0 : wr.cell? ⟨w1.heap.size, 0, none⟩ = some (.int .i64 (R 0).c) := kk 0 (by decide)
      have k1 : wr.cell? ⟨w1.heap.size, 1, none⟩ = some (.bool (R 0).s) := kk 1 (by decide)
      have k2 : wr.cell? ⟨w1.heap.size, 2, none⟩ = some (.bool (R 0).g) := kk 2 (by decide)
      have k3 : wr.cell? ⟨w1.heap.size, 3, none⟩ = some (.int .i64 (R 0).x) := kk 3 (by decide)
      have k4 : wr.cell? ⟨w1.heap.size, 4, none⟩ = some (.int .u64 (W4 (R 0).k 0)) := kk 4 (by decide)
      have k5 : wr.cell? ⟨w1.heap.size, 5, none⟩ = some (.int .u64 (W4 (R 0).k 1)) := kk 5 (by decide)
      have k6 : wr.cell? ⟨w1.heap.size, 6, none⟩ = some (.int .u64 (W4 (R 0).k 2)) := kk 6 (by decide)
      have k7 : wr.cell? ⟨w1.heap.size, 7, none⟩ = some (.int .u64 (W4 (R 0).k 3)) := kk 7 (by decide)
      have k8 : wr.cell? ⟨w1.heap.size, 8, none⟩ = some (.int .i64 (R 1).c) := kk 8 (by decide)
      have k9 : wr.cell? ⟨w1.heap.size, 9, none⟩ = some (.bool (R 1).s) := kk 9 (by decide)
      have k10 : wr.cell? ⟨w1.heap.size, 10, none⟩ = some (.bool (R 1).g) := kk 10 (by decide)
      have k11 : wr.cell? ⟨w1.heap.size, 11, none⟩ = some (.int .i64 (R 1).x) := kk 11 (by decide)
      have k12 : wr.cell? ⟨w1.heap.size, 12, none⟩ = some (.int .u64 (W4 (R 1).k 0)) := kk 12 (by decide)
      have k13 : wr.cell? ⟨w1.heap.size, 13, none⟩ = some (.int .u64 (W4 (R 1).k 1)) := kk 13 (by decide)
      have k14 : wr.cell? ⟨w1.heap.size, 14, none⟩ = some (.int .u64 (W4 (R 1).k 2)) := kk 14 (by decide)
      have k15 : wr.cell? ⟨w1.heap.size, 15, none⟩ = some (.int .u64 (W4 (R 1).k 3)) := kk 15 (by decide)
      have k16 : wr.cell? ⟨w1.heap.size, 16, none⟩ = some (.int .i64 (R 2).c) := kk 16 (by decide)
      have k17 : wr.cell? ⟨w1.heap.size, 17, none⟩ = some (.bool (R 2).s) := kk 17 (by decide)
      have k18 : wr.cell? ⟨w1.heap.size, 18, none⟩ = some (.bool (R 2).g) := kk 18 (by decide)
      have k19 : wr.cell? ⟨w1.heap.size, 19, none⟩ = some (.int .i64 (R 2).x) := kk 19 (by decide)
      have k20 : wr.cell? ⟨w1.heap.size, 20, none⟩ = some (.int .u64 (W4 (R 2).k 0)) := kk 20 (by decide)
      have k21 : wr.cell? ⟨w1.heap.size, 21, none⟩ = some (.int .u64 (W4 (R 2).k 1)) := kk 21 (by decide)
      have k22 : wr.cell? ⟨w1.heap.size, 22, none⟩ = some (.int .u64 (W4 (R 2).k 2)) := kk 22 (by decide)
      have k23 : wr.cell? ⟨w1.heap.size, 23, none⟩ = some (.int .u64 (W4 (R 2).k 3)) := kk 23 (by decide)
      have q3 : D8at w1.heap.size 24 (R 3).c (R 3).s (R 3).g (R 3).x (R 3).k wr := fun i hi => by
        have hor : i = 0 ∨ i = 1 ∨ i = 2 ∨ i = 3 ∨ i = 4 ∨ i = 5 ∨ i = 6 ∨ i = 7 := by omega
        rcases hor with rfl | rfl | rfl | rfl | rfl | rfl | rfl | rfl
        · exact kk 24 (by decide)
        · exact kk 25 (by decide)
        · exact kk 26 (by decide)
        · exact kk 27 (by decide)
        · exact kk 28 (by decide)
        · exact kk 29 (by decide)
        · exact kk 30 (by decide)
        · exact kk 31 (by decide)
      have q4 : D8at w1.heap.size 32 (R 4).c (R 4).s (R 4).g (R 4).x (R 4).k wr := fun i hi => by
        have hor : i = 0 ∨ i = 1 ∨ i = 2 ∨ i = 3 ∨ i = 4 ∨ i = 5 ∨ i = 6 ∨ i = 7 := by omega
        rcases hor with rfl | rfl | rfl | rfl | rfl | rfl | rfl | rfl
        · exact kk 32 (by decide)
        · exact kk 33 (by decide)
        · exact kk 34 (by decide)
        · exact kk 35 (by decide)
        · exact kk 36 (by decide)
        · exact kk 37 (by decide)
        · exact kk 38 (by decide)
        · exact kk 39 (by decide)
      clear kk
      go_wp2
      refine regS14 (h11 := w1.heap.size) rfl rfl hl0 q4 q3 ?_
      clear q3 q4
      intro a' w4 g h e17 e18 hne hg hh hD1 hD2 hsz' hdf hFr hb4
      have ha := act_of slotsS14 7 rfl hsz' hdf hFr
      rw [ha]
      simp only [slotsS14, List.foldl_cons, List.foldl_nil, Act.put, List.setIfInBounds_toArray, List.set_cons_succ, List.set_cons_zero, e17, e18]
      generalize slot a' 66 = s66
      generalize slot a' 67 = s67
      generalize slot a' 68 = s68
      generalize slot a' 69 = s69
      generalize slot a' 100 = s100
      clear ha e17 e18 hsz' hdf hFr
      replace k0 := (hb4.cell (p := ⟨w1.heap.size, 0, none⟩) hl0).trans k0
      replace k1 := (hb4.cell (p := ⟨w1.heap.size, 1, none⟩) hl0).trans k1
      replace k2 := (hb4.cell (p := ⟨w1.heap.size, 2, none⟩) hl0).trans k2
      replace k3 := (hb4.cell (p := ⟨w1.heap.size, 3, none⟩) hl0).trans k3
      replace k4 := (hb4.cell (p := ⟨w1.heap.size, 4, none⟩) hl0).trans k4
      replace k5 := (hb4.cell (p := ⟨w1.heap.size, 5, none⟩) hl0).trans k5
      replace k6 := (hb4.cell (p := ⟨w1.heap.size, 6, none⟩) hl0).trans k6
      replace k7 := (hb4.cell (p := ⟨w1.heap.size, 7, none⟩) hl0).trans k7
      replace k8 := (hb4.cell (p := ⟨w1.heap.size, 8, none⟩) hl0).trans k8
      replace k9 := (hb4.cell (p := ⟨w1.heap.size, 9, none⟩) hl0).trans k9
      replace k10 := (hb4.cell (p := ⟨w1.heap.size, 10, none⟩) hl0).trans k10
      replace k11 := (hb4.cell (p := ⟨w1.heap.size, 11, none⟩) hl0).trans k11
      replace k12 := (hb4.cell (p := ⟨w1.heap.size, 12, none⟩) hl0).trans k12
      replace k13 := (hb4.cell (p := ⟨w1.heap.size, 13, none⟩) hl0).trans k13
      replace k14 := (hb4.cell (p := ⟨w1.heap.size, 14, none⟩) hl0).trans k14
      replace k15 := (hb4.cell (p := ⟨w1.heap.size, 15, none⟩) hl0).trans k15
      replace k16 := (hb4.cell (p := ⟨w1.heap.size, 16, none⟩) hl0).trans k16
      replace k17 := (hb4.cell (p := ⟨w1.heap.size, 17, none⟩) hl0).trans k17
      replace k18 := (hb4.cell (p := ⟨w1.heap.size, 18, none⟩) hl0).trans k18
      replace k19 := (hb4.cell (p := ⟨w1.heap.size, 19, none⟩) hl0).trans k19
      replace k20 := (hb4.cell (p := ⟨w1.heap.size, 20, none⟩) hl0).trans k20
      replace k21 := (hb4.cell (p := ⟨w1.heap.size, 21, none⟩) hl0).trans k21
      replace k22 := (hb4.cell (p := ⟨w1.heap.size, 22, none⟩) hl0).trans k22
      replace k23 := (hb4.cell (p := ⟨w1.heap.size, 23, none⟩) hl0).trans k23
      have hl4 : w1.heap.size < w4.heap.size := Nat.lt_of_lt_of_le hl0 hb4.size
      have hA4 := bnext (w0 := w) hA0 hb4
      have hs4 := hA4.size
      have hg1 : w1.heap.size ≠ g := by omega
      have hg2 : w1.heap.size ≠ h := by omega
      have hgw : w.heap.size ≤ g := by omega
      have hhw : w.heap.size ≤ h := by omega
      clear hb4
      have hfg := hD1.2.2.2
      have hfh := hD2.2.2.2
      have hgl := hD1.1
      have hhl := hD2.1
      have hhg : h ≠ g := fun e => hne e.symm
      have hBl := hD1
      have hBu := hD2
      clear hD1 hD2
      obtain ⟨hH, h22, h00, h11⟩ := HHH.out
      have eLH := dat_eqF (hk 3) (hk 4) hH
      have e2L := dat_eqT h22
      obtain ⟨g0, g1, g2, g3, g4, g5, g6, g7⟩ := hBl.cells
      obtain ⟨i0, i1, i2, i3, i4, i5, i6, i7⟩ := hBu.cells
      clear hBl hBu hH h22
      by_cases z0 : R 0 = R 3
      · by_cases z1 : R 1 = R 3
        · have e0L := dat_eqT z0
          have e1L := dat_eqT z1
          clear z0 z1 h00 h11 hk
          go_wp2
          go_ret
          exact ⟨by simp, bgo⟩
        · have e0L := dat_eqT z0
          have e1L := dat_eqF (hk 1) (hk 3) z1
          have e1H := dat_eqT (h11.resolve_left z1)
          clear z0 z1 h00 h11 hk
          go_wp2
          go_ret
          exact ⟨by simp, bgo⟩
      · by_cases z1 : R 1 = R 3
        · have e0L := dat_eqF (hk 0) (hk 3) z0
          have e0H := dat_eqT (h00.resolve_left z0)
          have e1L := dat_eqT z1
          clear z0 z1 h00 h11 hk
          go_wp2
          go_ret
          exact ⟨by simp, bgo⟩
        · have e0L := dat_eqF (hk 0) (hk 3) z0
          have e0H := dat_eqT (h00.resolve_left z0)
          have e1L := dat_eqF (hk 1) (hk 3) z1
          have e1H := dat_eqT (h11.resolve_left z1)
          clear z0 z1 h00 h11 hk
          go_wp2
          go_ret
          exact ⟨by simp, bgo⟩
    · have hor : j = 0 ∨ j = 1 ∨ j = 2 ∨ j = 3 ∨ j = 4 := by omega
      rcases hor with rfl | rfl | rfl | rfl | rfl
      · have k0 : wr.cell? ⟨w1.heap.size, 0, none⟩ = some (.int .i64 0) := hR.cel 0 (by decide)
        have k1 : wr.cell? ⟨w1.heap.size, 1, none⟩ = some (.bool false) := hR.cel 1 (by decide)
        have k2 : wr.cell? ⟨w1.heap.size, 2, none⟩ = some (.bool false) := hR.cel 2 (by decide)
        have k3 : wr.cell? ⟨w1.heap.size, 3, none⟩ = some (.int .i64 0) := hR.cel 3 (by decide)
        have k4 : wr.cell? ⟨w1.heap.size, 4, none⟩ = some (.int .u64 0) := hR.cel 4 (by decide)
        have k5 : wr.cell? ⟨w1.heap.size, 5, none⟩ = some (.int .u64 0) := hR.cel 5 (by decide)
        have k6 : wr.cell? ⟨w1.heap.size, 6, none⟩ = some (.int .u64 0) := hR.cel 6 (by decide)
        have k7 : wr.cell? ⟨w1.heap.size, 7, none⟩ = some (.int .u64 0) := hR.cel 7 (by decide)
        have f0 : wr.frozen? ⟨w1.heap.size, 0, none⟩ = false := hR.fro 0 (by decide)
        have f1 : wr.frozen? ⟨w1.heap.size, 1, none⟩ = false := hR.fro 1 (by decide)
        have f2 : wr.frozen? ⟨w1.heap.size, 2, none⟩ = false := hR.fro 2 (by decide)
        have f3 : wr.frozen? ⟨w1.heap.size, 3, none⟩ = false := hR.fro 3 (by decide)
        have f4 : wr.frozen? ⟨w1.heap.size, 4, none⟩ = false := hR.fro 4 (by decide)
        have f5 : wr.frozen? ⟨w1.heap.size, 5, none⟩ = false := hR.fro 5 (by decide)
        have f6 : wr.frozen? ⟨w1.heap.size, 6, none⟩ = false := hR.fro 6 (by decide)
        have f7 : wr.frozen? ⟨w1.heap.size, 7, none⟩ = false := hR.fro 7 (by decide)
        have hFj := hF 0
        have hq1 : 0 ≤ (F 0).tdiv 8 := Int.tdiv_nonneg hFj.1 (by decide)
        have hq2 : (F 0).tdiv 8 ≤ 100 := by rw [Int.tdiv_eq_ediv_of_nonneg hFj.1]; omega
        have hm1 := smD_bd hF 0
        have c7j := fun W hW hW' => c7 0 W (by decide) hW hW'
        have HR : Hid (DdW w w1.heap.size R 0 wr) := hR
        have HS : Hid (smD F 1 = smD F 0 + (F 0).tdiv 8) := rfl
        generalize smD F 0 = sm at *
        clear hR
        go_wp2_with (first
          | (go_at_call 8; refine (c7j _ (hTT _ _ hT bgo) bgo).mono ?_; rintro r w3 ⟨rfl, hb3⟩; obtain ⟨hc3, hf3⟩ := bcell hb3; have hz3_0 : w1.heap.size < w3.heap.size := lt_below hb3 ltg; have hl3_0 := Nat.le_of_lt hz3_0; have hA3 := bnext (w0 := w) bgo hb3; have hs3 := hA3.size; clear hb3))
        go_round
        case rel =>
          have hfr := HR.out.fro
          have hce := HR.out.cel
          refine ⟨1, by decide, rfl, by rw [HS.out], bgo, by simp; omega, hs1, fun i hi => ?_, fun i hi => ?_⟩
          · by_cases hor : i = 0 ∨ i = 1 ∨ i = 2 ∨ i = 3 ∨ i = 4 ∨ i = 5 ∨ i = 6 ∨ i = 7
            · rcases hor with rfl | rfl | rfl | rfl | rfl | rfl | rfl | rfl
              · show _ = some (.int .i64 (R 0).c : Value); go_simp
              · show _ = some (.bool (R 0).s : Value); go_simp
              · show _ = some (.bool (R 0).g : Value); go_simp
              · show _ = some (.int .i64 (R 0).x : Value); go_simp
              · show _ = some (.int .u64 (W4 (R 0).k 0) : Value); go_simp
              · show _ = some (.int .u64 (W4 (R 0).k 1) : Value); go_simp
              · show _ = some (.int .u64 (W4 (R 0).k 2) : Value); go_simp
              · show _ = some (.int .u64 (W4 (R 0).k 3) : Value); go_simp
            · have hki := hce i hi
              rw [show rwD R 1 (i / 8) (i % 8) = rwD R 0 (i / 8) (i % 8) by unfold rwD; by_cases q : i / 8 < 0; (rw [if_pos q, if_pos (by omega)]); (rw [if_neg q, if_neg (by omega)])]
              clear hce hfr
              have n0 : ¬ i = 0 := by omega
              have n1 : ¬ i = 1 := by omega
              have n2 : ¬ i = 2 := by omega
              have n3 : ¬ i = 3 := by omega
              have n4 : ¬ i = 4 := by omega
              have n5 : ¬ i = 5 := by omega
              have n6 : ¬ i = 6 := by omega
              have n7 : ¬ i = 7 := by omega
              go_simp
          · have hfi := hfr i hi
            clear hfr hce
            go_simp
        case measure => simp [intOf]
      · have k8 : wr.cell? ⟨w1.heap.size, 8, none⟩ = some (.int .i64 0) := hR.cel 8 (by decide)
        have k9 : wr.cell? ⟨w1.heap.size, 9, none⟩ = some (.bool false) := hR.cel 9 (by decide)
        have k10 : wr.cell? ⟨w1.heap.size, 10, none⟩ = some (.bool false) := hR.cel 10 (by decide)
        have k11 : wr.cell? ⟨w1.heap.size, 11, none⟩ = some (.int .i64 0) := hR.cel 11 (by decide)
        have k12 : wr.cell? ⟨w1.heap.size, 12, none⟩ = some (.int .u64 0) := hR.cel 12 (by decide)
        have k13 : wr.cell? ⟨w1.heap.size, 13, none⟩ = some (.int .u64 0) := hR.cel 13 (by decide)
        have k14 : wr.cell? ⟨w1.heap.size, 14, none⟩ = some (.int .u64 0) := hR.cel 14 (by decide)
        have k15 : wr.cell? ⟨w1.heap.size, 15, none⟩ = some (.int .u64 0) := hR.cel 15 (by decide)
        have f8 : wr.frozen? ⟨w1.heap.size, 8, none⟩ = false := hR.fro 8 (by decide)
        have f9 : wr.frozen? ⟨w1.heap.size, 9, none⟩ = false := hR.fro 9 (by decide)
        have f10 : wr.frozen? ⟨w1.heap.size, 10, none⟩ = false := hR.fro 10 (by decide)
        have f11 : wr.frozen? ⟨w1.heap.size, 11, none⟩ = false := hR.fro 11 (by decide)
        have f12 : wr.frozen? ⟨w1.heap.size, 12, none⟩ = false := hR.fro 12 (by decide)
        have f13 : wr.frozen? ⟨w1.heap.size, 13, none⟩ = false := hR.fro 13 (by decide)
        have f14 : wr.frozen? ⟨w1.heap.size, 14, none⟩ = false := hR.fro 14 (by decide)
        have f15 : wr.frozen? ⟨w1.heap.size, 15, none⟩ = false := hR.fro 15 (by decide)
        have hFj := hF 1
        have hq1 : 0 ≤ (F 1).tdiv 8 := Int.tdiv_nonneg hFj.1 (by decide)
        have hq2 : (F 1).tdiv 8 ≤ 100 := by rw [Int.tdiv_eq_ediv_of_nonneg hFj.1]; omega
        have hm1 := smD_bd hF 1
        have c7j := fun W hW hW' => c7 1 W (by decide) hW hW'
        have HR : Hid (DdW w w1.heap.size R 1 wr) := hR
        have HS : Hid (smD F 2 = smD F 1 + (F 1).tdiv 8) := rfl
        generalize smD F 1 = sm at *
        clear hR
        go_wp2_with (first
          | (go_at_call 8; refine (c7j _ (hTT _ _ hT bgo) bgo).mono ?_; rintro r w3 ⟨rfl, hb3⟩; obtain ⟨hc3, hf3⟩ := bcell hb3; have hz3_0 : w1.heap.size < w3.heap.size := lt_below hb3 ltg; have hl3_0 := Nat.le_of_lt hz3_0; have hA3 := bnext (w0 := w) bgo hb3; have hs3 := hA3.size; clear hb3))
        go_round
        case rel =>
          have hfr := HR.out.fro
          have hce := HR.out.cel
          refine ⟨2, by decide, rfl, by rw [HS.out], bgo, by simp; omega, hs1, fun i hi => ?_, fun i hi => ?_⟩
          · by_cases hor : i = 8 ∨ i = 9 ∨ i = 10 ∨ i = 11 ∨ i = 12 ∨ i = 13 ∨ i = 14 ∨ i = 15
            · rcases hor with rfl | rfl | rfl | rfl | rfl | rfl | rfl | rfl
              · show _ = some (.int .i64 (R 1).c : Value); go_simp
              · show _ = some (.bool (R 1).s : Value); go_simp
              · show _ = some (.bool (R 1).g : Value); go_simp
              · show _ = some (.int .i64 (R 1).x : Value); go_simp
              · show _ = some (.int .u64 (W4 (R 1).k 0) : Value); go_simp
              · show _ = some (.int .u64 (W4 (R 1).k 1) : Value); go_simp
              · show _ = some (.int .u64 (W4 (R 1).k 2) : Value); go_simp
              · show _ = some (.int .u64 (W4 (R 1).k 3) : Value); go_simp
            · have hki := hce i hi
              rw [show rwD R 2 (i / 8) (i % 8) = rwD R 1 (i / 8) (i % 8) by unfold rwD; by_cases q : i / 8 < 1; (rw [if_pos q, if_pos (by omega)]); (rw [if_neg q, if_neg (by omega)])]
              clear hce hfr
              have n0 : ¬ i = 8 := by omega
              have n1 : ¬ i = 9 := by omega
              have n2 : ¬ i = 10 := by omega
              have n3 : ¬ i = 11 := by omega
              have n4 : ¬ i = 12 := by omega
              have n5 : ¬ i = 13 := by omega
              have n6 : ¬ i = 14 := by omega
              have n7 : ¬ i = 15 := by omega
              go_simp
          · have hfi := hfr i hi
            clear hfr hce
            go_simp
        case measure => simp [intOf]
      · have k16 : wr.cell? ⟨w1.heap.size, 16, none⟩ = some (.int .i64 0) := hR.cel 16 (by decide)
        have k17 : wr.cell? ⟨w1.heap.size, 17, none⟩ = some (.bool false) := hR.cel 17 (by decide)
        have k18 : wr.cell? ⟨w1.heap.size, 18, none⟩ = some (.bool false) := hR.cel 18 (by decide)
        have k19 : wr.cell? ⟨w1.heap.size, 19, none⟩ = some (.int .i64 0) := hR.cel 19 (by decide)
        have k20 : wr.cell? ⟨w1.heap.size, 20, none⟩ = some (.int .u64 0) := hR.cel 20 (by decide)
        have k21 : wr.cell? ⟨w1.heap.size, 21, none⟩ = some (.int .u64 0) := hR.cel 21 (by decide)
        have k22 : wr.cell? ⟨w1.heap.size, 22, none⟩ = some (.int .u64 0) := hR.cel 22 (by decide)
        have k23 : wr.cell? ⟨w1.heap.size, 23, none⟩ = some (.int .u64 0) := hR.cel 23 (by decide)
        have f16 : wr.frozen? ⟨w1.heap.size, 16, none⟩ = false := hR.fro 16 (by decide)
        have f17 : wr.frozen? ⟨w1.heap.size, 17, none⟩ = false := hR.fro 17 (by decide)
        have f18 : wr.frozen? ⟨w1.heap.size, 18, none⟩ = false := hR.fro 18 (by decide)
        have f19 : wr.frozen? ⟨w1.heap.size, 19, none⟩ = false := hR.fro 19 (by decide)
        have f20 : wr.frozen? ⟨w1.heap.size, 20, none⟩ = false := hR.fro 20 (by decide)
        have f21 : wr.frozen? ⟨w1.heap.size, 21, none⟩ = false := hR.fro 21 (by decide)
        have f22 : wr.frozen? ⟨w1.heap.size, 22, none⟩ = false := hR.fro 22 (by decide)
        have f23 : wr.frozen? ⟨w1.heap.size, 23, none⟩ = false := hR.fro 23 (by decide)
        have hFj := hF 2
        have hq1 : 0 ≤ (F 2).tdiv 8 := Int.tdiv_nonneg hFj.1 (by decide)
        have hq2 : (F 2).tdiv 8 ≤ 100 := by rw [Int.tdiv_eq_ediv_of_nonneg hFj.1]; omega
        have hm1 := smD_bd hF 2
        have c7j := fun W hW hW' => c7 2 W (by decide) hW hW'
        have HR : Hid (DdW w w1.heap.size R 2 wr) := hR
        have HS : Hid (smD F 3 = smD F 2 + (F 2).tdiv 8) := rfl
        generalize smD F 2 = sm at *
        clear hR
        go_wp2_with (first
          | (go_at_call 8; refine (c7j _ (hTT _ _ hT bgo) bgo).mono ?_; rintro r w3 ⟨rfl, hb3⟩; obtain ⟨hc3, hf3⟩ := bcell hb3; have hz3_0 : w1.heap.size < w3.heap.size := lt_below hb3 ltg; have hl3_0 := Nat.le_of_lt hz3_0; have hA3 := bnext (w0 := w) bgo hb3; have hs3 := hA3.size; clear hb3))
        go_round
        case rel =>
          have hfr := HR.out.fro
          have hce := HR.out.cel
          refine ⟨3, by decide, rfl, by rw [HS.out], bgo, by simp; omega, hs1, fun i hi => ?_, fun i hi => ?_⟩
          · by_cases hor : i = 16 ∨ i = 17 ∨ i = 18 ∨ i = 19 ∨ i = 20 ∨ i = 21 ∨ i = 22 ∨ i = 23
            · rcases hor with rfl | rfl | rfl | rfl | rfl | rfl | rfl | rfl
              · show _ = some (.int .i64 (R 2).c : Value); go_simp
              · show _ = some (.bool (R 2).s : Value); go_simp
              · show _ = some (.bool (R 2).g : Value); go_simp
              · show _ = some (.int .i64 (R 2).x : Value); go_simp
              · show _ = some (.int .u64 (W4 (R 2).k 0) : Value); go_simp
              · show _ = some (.int .u64 (W4 (R 2).k 1) : Value); go_simp
              · show _ = some (.int .u64 (W4 (R 2).k 2) : Value); go_simp
              · show _ = some (.int .u64 (W4 (R 2).k 3) : Value); go_simp
            · have hki := hce i hi
              rw [show rwD R 3 (i / 8) (i % 8) = rwD R 2 (i / 8) (i % 8) by unfold rwD; by_cases q : i / 8 < 2; (rw [if_pos q, if_pos (by omega)]); (rw [if_neg q, if_neg (by omega)])]
              clear hce hfr
              have n0 : ¬ i = 16 := by omega
              have n1 : ¬ i = 17 := by omega
              have n2 : ¬ i = 18 := by omega
              have n3 : ¬ i = 19 := by omega
              have n4 : ¬ i = 20 := by omega
              have n5 : ¬ i = 21 := by omega
              have n6 : ¬ i = 22 := by omega
              have n7 : ¬ i = 23 := by omega
              go_simp
          · have hfi := hfr i hi
            clear hfr hce
            go_simp
        case measure => simp [intOf]
      · have k24 : wr.cell? ⟨w1.heap.size, 24, none⟩ = some (.int .i64 0) := hR.cel 24 (by decide)
        have k25 : wr.cell? ⟨w1.heap.size, 25, none⟩ = some (.bool false) := hR.cel 25 (by decide)
        have k26 : wr.cell? ⟨w1.heap.size, 26, none⟩ = some (.bool false) := hR.cel 26 (by decide)
        have k27 : wr.cell? ⟨w1.heap.size, 27, none⟩ = some (.int .i64 0) := hR.cel 27 (by decide)
        have k28 : wr.cell? ⟨w1.heap.size, 28, none⟩ = some (.int .u64 0) := hR.cel 28 (by decide)
        have k29 : wr.cell? ⟨w1.heap.size, 29, none⟩ = some (.int .u64 0) := hR.cel 29 (by decide)
        have k30 : wr.cell? ⟨w1.heap.size, 30, none⟩ = some (.int .u64 0) := hR.cel 30 (by decide)
        have k31 : wr.cell? ⟨w1.heap.size, 31, none⟩ = some (.int .u64 0) := hR.cel 31 (by decide)
        have f24 : wr.frozen? ⟨w1.heap.size, 24, none⟩ = false := hR.fro 24 (by decide)
        have f25 : wr.frozen? ⟨w1.heap.size, 25, none⟩ = false := hR.fro 25 (by decide)
        have f26 : wr.frozen? ⟨w1.heap.size, 26, none⟩ = false := hR.fro 26 (by decide)
        have f27 : wr.frozen? ⟨w1.heap.size, 27, none⟩ = false := hR.fro 27 (by decide)
        have f28 : wr.frozen? ⟨w1.heap.size, 28, none⟩ = false := hR.fro 28 (by decide)
        have f29 : wr.frozen? ⟨w1.heap.size, 29, none⟩ = false := hR.fro 29 (by decide)
        have f30 : wr.frozen? ⟨w1.heap.size, 30, none⟩ = false := hR.fro 30 (by decide)
        have f31 : wr.frozen? ⟨w1.heap.size, 31, none⟩ = false := hR.fro 31 (by decide)
        have hFj := hF 3
        have hq1 : 0 ≤ (F 3).tdiv 8 := Int.tdiv_nonneg hFj.1 (by decide)
        have hq2 : (F 3).tdiv 8 ≤ 100 := by rw [Int.tdiv_eq_ediv_of_nonneg hFj.1]; omega
        have hm1 := smD_bd hF 3
        have c7j := fun W hW hW' => c7 3 W (by decide) hW hW'
        have HR : Hid (DdW w w1.heap.size R 3 wr) := hR
        have HS : Hid (smD F 4 = smD F 3 + (F 3).tdiv 8) := rfl
        generalize smD F 3 = sm at *
        clear hR
        go_wp2_with (first
          | (go_at_call 8; refine (c7j _ (hTT _ _ hT bgo) bgo).mono ?_; rintro r w3 ⟨rfl, hb3⟩; obtain ⟨hc3, hf3⟩ := bcell hb3; have hz3_0 : w1.heap.size < w3.heap.size := lt_below hb3 ltg; have hl3_0 := Nat.le_of_lt hz3_0; have hA3 := bnext (w0 := w) bgo hb3; have hs3 := hA3.size; clear hb3))
        go_round
        case rel =>
          have hfr := HR.out.fro
          have hce := HR.out.cel
          refine ⟨4, by decide, rfl, by rw [HS.out], bgo, by simp; omega, hs1, fun i hi => ?_, fun i hi => ?_⟩
          · by_cases hor : i = 24 ∨ i = 25 ∨ i = 26 ∨ i = 27 ∨ i = 28 ∨ i = 29 ∨ i = 30 ∨ i = 31
            · rcases hor with rfl | rfl | rfl | rfl | rfl | rfl | rfl | rfl
              · show _ = some (.int .i64 (R 3).c : Value); go_simp
              · show _ = some (.bool (R 3).s : Value); go_simp
              · show _ = some (.bool (R 3).g : Value); go_simp
              · show _ = some (.int .i64 (R 3).x : Value); go_simp
              · show _ = some (.int .u64 (W4 (R 3).k 0) : Value); go_simp
              · show _ = some (.int .u64 (W4 (R 3).k 1) : Value); go_simp
              · show _ = some (.int .u64 (W4 (R 3).k 2) : Value); go_simp
              · show _ = some (.int .u64 (W4 (R 3).k 3) : Value); go_simp
            · have hki := hce i hi
              rw [show rwD R 4 (i / 8) (i % 8) = rwD R 3 (i / 8) (i % 8) by unfold rwD; by_cases q : i / 8 < 3; (rw [if_pos q, if_pos (by omega)]); (rw [if_neg q, if_neg (by omega)])]
              clear hce hfr
              have n0 : ¬ i = 24 := by omega
              have n1 : ¬ i = 25 := by omega
              have n2 : ¬ i = 26 := by omega
              have n3 : ¬ i = 27 := by omega
              have n4 : ¬ i = 28 := by omega
              have n5 : ¬ i = 29 := by omega
              have n6 : ¬ i = 30 := by omega
              have n7 : ¬ i = 31 := by omega
              go_simp
          · have hfi := hfr i hi
            clear hfr hce
            go_simp
        case measure => simp [intOf]
      · have k32 : wr.cell? ⟨w1.heap.size, 32, none⟩ = some (.int .i64 0) := hR.cel 32 (by decide)
        have k33 : wr.cell? ⟨w1.heap.size, 33, none⟩ = some (.bool false) := hR.cel 33 (by decide)
        have k34 : wr.cell? ⟨w1.heap.size, 34, none⟩ = some (.bool false) := hR.cel 34 (by decide)
        have k35 : wr.cell? ⟨w1.heap.size, 35, none⟩ = some (.int .i64 0) := hR.cel 35 (by decide)
        have k36 : wr.cell? ⟨w1.heap.size, 36, none⟩ = some (.int .u64 0) := hR.cel 36 (by decide)
        have k37 : wr.cell? ⟨w1.heap.size, 37, none⟩ = some (.int .u64 0) := hR.cel 37 (by decide)
        have k38 : wr.cell? ⟨w1.heap.size, 38, none⟩ = some (.int .u64 0) := hR.cel 38 (by decide)
        have k39 : wr.cell? ⟨w1.heap.size, 39, none⟩ = some (.int .u64 0) := hR.cel 39 (by decide)
        have f32 : wr.frozen? ⟨w1.heap.size, 32, none⟩ = false := hR.fro 32 (by decide)
        have f33 : wr.frozen? ⟨w1.heap.size, 33, none⟩ = false := hR.fro 33 (by decide)
        have f34 : wr.frozen? ⟨w1.heap.size, 34, none⟩ = false := hR.fro 34 (by decide)
        have f35 : wr.frozen? ⟨w1.heap.size, 35, none⟩ = false := hR.fro 35 (by decide)
        have f36 : wr.frozen? ⟨w1.heap.size, 36, none⟩ = false := hR.fro 36 (by decide)
        have f37 : wr.frozen? ⟨w1.heap.size, 37, none⟩ = false := hR.fro 37 (by decide)
        have f38 : wr.frozen? ⟨w1.heap.size, 38, none⟩ = false := hR.fro 38 (by decide)
        have f39 : wr.frozen? ⟨w1.heap.size, 39, none⟩ = false := hR.fro 39 (by decide)
        have hFj := hF 4
        have hq1 : 0 ≤ (F 4).tdiv 8 := Int.tdiv_nonneg hFj.1 (by decide)
        have hq2 : (F 4).tdiv 8 ≤ 100 := by rw [Int.tdiv_eq_ediv_of_nonneg hFj.1]; omega
        have hm1 := smD_bd hF 4
        have c7j := fun W hW hW' => c7 4 W (by decide) hW hW'
        have HR : Hid (DdW w w1.heap.size R 4 wr) := hR
        have HS : Hid (smD F 5 = smD F 4 + (F 4).tdiv 8) := rfl
        generalize smD F 4 = sm at *
        clear hR
        go_wp2_with (first
          | (go_at_call 8; refine (c7j _ (hTT _ _ hT bgo) bgo).mono ?_; rintro r w3 ⟨rfl, hb3⟩; obtain ⟨hc3, hf3⟩ := bcell hb3; have hz3_0 : w1.heap.size < w3.heap.size := lt_below hb3 ltg; have hl3_0 := Nat.le_of_lt hz3_0; have hA3 := bnext (w0 := w) bgo hb3; have hs3 := hA3.size; clear hb3))
        go_round
        case rel =>
          have hfr := HR.out.fro
          have hce := HR.out.cel
          refine ⟨5, by decide, rfl, by rw [HS.out], bgo, by simp; omega, hs1, fun i hi => ?_, fun i hi => ?_⟩
          · by_cases hor : i = 32 ∨ i = 33 ∨ i = 34 ∨ i = 35 ∨ i = 36 ∨ i = 37 ∨ i = 38 ∨ i = 39
            · rcases hor with rfl | rfl | rfl | rfl | rfl | rfl | rfl | rfl
              · show _ = some (.int .i64 (R 4).c : Value); go_simp
              · show _ = some (.bool (R 4).s : Value); go_simp
              · show _ = some (.bool (R 4).g : Value); go_simp
              · show _ = some (.int .i64 (R 4).x : Value); go_simp
              · show _ = some (.int .u64 (W4 (R 4).k 0) : Value); go_simp
              · show _ = some (.int .u64 (W4 (R 4).k 1) : Value); go_simp
              · show _ = some (.int .u64 (W4 (R 4).k 2) : Value); go_simp
              · show _ = some (.int .u64 (W4 (R 4).k 3) : Value); go_simp
            · have hki := hce i hi
              rw [show rwD R 5 (i / 8) (i % 8) = rwD R 4 (i / 8) (i % 8) by unfold rwD; by_cases q : i / 8 < 4; (rw [if_pos q, if_pos (by omega)]); (rw [if_neg q, if_neg (by omega)])]
              clear hce hfr
              have n0 : ¬ i = 32 := by omega
              have n1 : ¬ i = 33 := by omega
              have n2 : ¬ i = 34 := by omega
              have n3 : ¬ i = 35 := by omega
              have n4 : ¬ i = 36 := by omega
              have n5 : ¬ i = 37 := by omega
              have n6 : ¬ i = 38 := by omega
              have n7 : ¬ i = 39 := by omega
              go_simp
          · have hfi := hfr i hi
            clear hfr hce
            go_simp
        case measure => simp [intOf]
end
end Go.Proofs.YtmommdhnogogdaaDoor
