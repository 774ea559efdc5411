/-
  What limbs.Cmp does at each width: contracts.
-/
import Derived.Test.YtbbjkpcccimcbaaCut
import Derived.BigQuiet
set_option linter.unusedVariables false
set_option linter.unusedSimpArgs false
namespace Go.Proofs.Ytbbjkpcccimcbaa
open Go.RowKit
attribute [local go_sem] setCell_drewN alloc_drewN
theorem below_alloc2 (w : World) (o1 o2 : Obj) (m : Nat) : Below w.heap.size w ((((w.alloc o1).alloc o2).drewN m)) := by
  have h := ((Below.refl w.heap.size w).alloc (Nat.le_refl _) o1).alloc (by simp) o2
  exact ⟨h.os, h.tape, h.output, h.size, h.block⟩

set_option maxHeartbeats 1000000 in
theorem limCmp1 (x y : Nat → Int) (w : World) (hx : Words x) (hy : Words y) :
    Calls Try.prog 21 #[.agg (arrOf x 1), .agg (arrOf y 1)] w fun e w' => e = .returned (.int .i64 (cmpL x y 1)) ∧ Below w.heap.size w w' := by
  have sx : (arrOf x 1).size = 1 := arrOf_size x 1
  have sy : (arrOf y 1).size = 1 := arrOf_size y 1
  have gx := fun i h => arrOf_get? x 1 i h
  have gy := fun i h => arrOf_get? y 1 i h
  have hx0 := arrOf_get x 1
  have hy0 := arrOf_get y 1
  generalize arrOf x 1 = ax at *
  generalize arrOf y 1 = ay at *
  go_enter Try.func21, Try.ntmps21
  go_wp2
  go_loopw [5] (fun t wr => ∃ k m : Nat, k ≤ 1 ∧ cmpL x y k = cmpL x y 1 ∧ t = .int .i64 ((k : Int) - 1) ∧ wr = (((w.alloc (.cells ax 25)).alloc (.cells ay 25)).drewN m)) (fun t _ => (intOf t + 1).toNat)
  case atStart => exact ⟨1, 0, Nat.le_refl _, rfl, rfl, rfl⟩
  case round =>
    obtain ⟨k, m, hk, hs, rfl, rfl⟩ := hrel
    by_cases h0 : k = 0
    · subst h0
      have HS : Hid (cmpL x y 1 = 0) := hs.symm
      clear hs
      go_wp2
      go_ret
      exact ⟨ret_int HS.out.symm, below_alloc2 _ _ _ _⟩
    · obtain ⟨j, rfl⟩ : ∃ j, k = j + 1 := ⟨k - 1, by omega⟩
      have ej : ((j + 1 : Nat) : Int) - 1 = j := by omega
      have hj8 : (j : Int) < 1 := by omega
      rw [ej]
      have hcx := gx j (by omega)
      have hcy := gy j (by omega)
      have hgx := hx0 j
      have hgy := hy0 j
      have HS : Hid ((if x j < y j then -1 else if y j < x j then 1 else cmpL x y j) = cmpL x y 1) := hs
      have hkm : j ≤ 1 := by omega
      clear hs ej hk gx gy hx0 hy0 hx hy
      by_cases hlt : x j < y j
      · have HR : Hid (cmpL x y 1 = -1) := by rw [← HS.out, if_pos hlt]; rfl
        clear HS
        go_wp2
        go_quiet (fail)
        go_wp2
        go_ret
        exact ⟨ret_int HR.out.symm, below_drewN (below_alloc2 _ _ _ _) _⟩
      · by_cases hgt : y j < x j
        · have HR : Hid (cmpL x y 1 = 1) := by rw [← HS.out, if_neg hlt, if_pos hgt]; rfl
          clear HS
          go_wp2
          go_quiet (fail)
          go_wp2
          go_quiet (fail)
          go_wp2
          go_ret
          exact ⟨ret_int HR.out.symm, below_drewN (below_drewN (below_alloc2 _ _ _ _) _) _⟩
        · have HR : Hid (cmpL x y j = cmpL x y 1) := by rw [← HS.out, if_neg hlt, if_neg hgt]; rfl
          clear HS
          go_wp2
          go_quiet (fail)
          go_wp2
          go_quiet (fail)
          go_wp2
          go_roundw
          case rel => exact ⟨j, _, hkm, HR.out, by go_num, rfl⟩
          case measure => simp [intOf]

set_option maxHeartbeats 1000000 in
theorem limCmp2 (x y : Nat → Int) (w : World) (hx : Words x) (hy : Words y) :
    Calls Try.prog 23 #[.agg (arrOf x 2), .agg (arrOf y 2)] w fun e w' => e = .returned (.int .i64 (cmpL x y 2)) ∧ Below w.heap.size w w' := by
  have sx : (arrOf x 2).size = 2 := arrOf_size x 2
  have sy : (arrOf y 2).size = 2 := arrOf_size y 2
  have gx := fun i h => arrOf_get? x 2 i h
  have gy := fun i h => arrOf_get? y 2 i h
  have hx0 := arrOf_get x 2
  have hy0 := arrOf_get y 2
  generalize arrOf x 2 = ax at *
  generalize arrOf y 2 = ay at *
  go_enter Try.func23, Try.ntmps23
  go_wp2
  go_loopw [5] (fun t wr => ∃ k m : Nat, k ≤ 2 ∧ cmpL x y k = cmpL x y 2 ∧ t = .int .i64 ((k : Int) - 1) ∧ wr = (((w.alloc (.cells ax 28)).alloc (.cells ay 28)).drewN m)) (fun t _ => (intOf t + 1).toNat)
  case atStart => exact ⟨2, 0, Nat.le_refl _, rfl, rfl, rfl⟩
  case round =>
    obtain ⟨k, m, hk, hs, rfl, rfl⟩ := hrel
    by_cases h0 : k = 0
    · subst h0
      have HS : Hid (cmpL x y 2 = 0) := hs.symm
      clear hs
      go_wp2
      go_ret
      exact ⟨ret_int HS.out.symm, below_alloc2 _ _ _ _⟩
    · obtain ⟨j, rfl⟩ : ∃ j, k = j + 1 := ⟨k - 1, by omega⟩
      have ej : ((j + 1 : Nat) : Int) - 1 = j := by omega
      have hj8 : (j : Int) < 2 := by omega
      rw [ej]
      have hcx := gx j (by omega)
      have hcy := gy j (by omega)
      have hgx := hx0 j
      have hgy := hy0 j
      have HS : Hid ((if x j < y j then -1 else if y j < x j then 1 else cmpL x y j) = cmpL x y 2) := hs
      have hkm : j ≤ 2 := by omega
      clear hs ej hk gx gy hx0 hy0 hx hy
      by_cases hlt : x j < y j
      · have HR : Hid (cmpL x y 2 = -1) := by rw [← HS.out, if_pos hlt]; rfl
        clear HS
        go_wp2
        go_quiet (fail)
        go_wp2
        go_ret
        exact ⟨ret_int HR.out.symm, below_drewN (below_alloc2 _ _ _ _) _⟩
      · by_cases hgt : y j < x j
        · have HR : Hid (cmpL x y 2 = 1) := by rw [← HS.out, if_neg hlt, if_pos hgt]; rfl
          clear HS
          go_wp2
          go_quiet (fail)
          go_wp2
          go_quiet (fail)
          go_wp2
          go_ret
          exact ⟨ret_int HR.out.symm, below_drewN (below_drewN (below_alloc2 _ _ _ _) _) _⟩
        · have HR : Hid (cmpL x y j = cmpL x y 2) := by rw [← HS.out, if_neg hlt, if_neg hgt]; rfl
          clear HS
          go_wp2
          go_quiet (fail)
          go_wp2
          go_quiet (fail)
          go_wp2
          go_roundw
          case rel => exact ⟨j, _, hkm, HR.out, by go_num, rfl⟩
          case measure => simp [intOf]

set_option maxHeartbeats 1000000 in
theorem limCmp4 (x y : Nat → Int) (w : World) (hx : Words x) (hy : Words y) :
    Calls Try.prog 24 #[.agg (arrOf x 4), .agg (arrOf y 4)] w fun e w' => e = .returned (.int .i64 (cmpL x y 4)) ∧ Below w.heap.size w w' := by
  have sx : (arrOf x 4).size = 4 := arrOf_size x 4
  have sy : (arrOf y 4).size = 4 := arrOf_size y 4
  have gx := fun i h => arrOf_get? x 4 i h
  have gy := fun i h => arrOf_get? y 4 i h
  have hx0 := arrOf_get x 4
  have hy0 := arrOf_get y 4
  generalize arrOf x 4 = ax at *
  generalize arrOf y 4 = ay at *
  go_enter Try.func24, Try.ntmps24
  go_wp2
  go_loopw [5] (fun t wr => ∃ k m : Nat, k ≤ 4 ∧ cmpL x y k = cmpL x y 4 ∧ t = .int .i64 ((k : Int) - 1) ∧ wr = (((w.alloc (.cells ax 32)).alloc (.cells ay 32)).drewN m)) (fun t _ => (intOf t + 1).toNat)
  case atStart => exact ⟨4, 0, Nat.le_refl _, rfl, rfl, rfl⟩
  case round =>
    obtain ⟨k, m, hk, hs, rfl, rfl⟩ := hrel
    by_cases h0 : k = 0
    · subst h0
      have HS : Hid (cmpL x y 4 = 0) := hs.symm
      clear hs
      go_wp2
      go_ret
      exact ⟨ret_int HS.out.symm, below_alloc2 _ _ _ _⟩
    · obtain ⟨j, rfl⟩ : ∃ j, k = j + 1 := ⟨k - 1, by omega⟩
      have ej : ((j + 1 : Nat) : Int) - 1 = j := by omega
      have hj8 : (j : Int) < 4 := by omega
      rw [ej]
      have hcx := gx j (by omega)
      have hcy := gy j (by omega)
      have hgx := hx0 j
      have hgy := hy0 j
      have HS : Hid ((if x j < y j then -1 else if y j < x j then 1 else cmpL x y j) = cmpL x y 4) := hs
      have hkm : j ≤ 4 := by omega
      clear hs ej hk gx gy hx0 hy0 hx hy
      by_cases hlt : x j < y j
      · have HR : Hid (cmpL x y 4 = -1) := by rw [← HS.out, if_pos hlt]; rfl
        clear HS
        go_wp2
        go_quiet (fail)
        go_wp2
        go_ret
        exact ⟨ret_int HR.out.symm, below_drewN (below_alloc2 _ _ _ _) _⟩
      · by_cases hgt : y j < x j
        · have HR : Hid (cmpL x y 4 = 1) := by rw [← HS.out, if_neg hlt, if_pos hgt]; rfl
          clear HS
          go_wp2
          go_quiet (fail)
          go_wp2
          go_quiet (fail)
          go_wp2
          go_ret
          exact ⟨ret_int HR.out.symm, below_drewN (below_drewN (below_alloc2 _ _ _ _) _) _⟩
        · have HR : Hid (cmpL x y j = cmpL x y 4) := by rw [← HS.out, if_neg hlt, if_neg hgt]; rfl
          clear HS
          go_wp2
          go_quiet (fail)
          go_wp2
          go_quiet (fail)
          go_wp2
          go_roundw
          case rel => exact ⟨j, _, hkm, HR.out, by go_num, rfl⟩
          case measure => simp [intOf]

set_option maxHeartbeats 1000000 in
theorem limCmp8 (x y : Nat → Int) (w : World) (hx : Words x) (hy : Words y) :
    Calls Try.prog 25 #[.agg (arrOf x 8), .agg (arrOf y 8)] w fun e w' => e = .returned (.int .i64 (cmpL x y 8)) ∧ Below w.heap.size w w' := by
  have sx : (arrOf x 8).size = 8 := arrOf_size x 8
  have sy : (arrOf y 8).size = 8 := arrOf_size y 8
  have gx := fun i h => arrOf_get? x 8 i h
  have gy := fun i h => arrOf_get? y 8 i h
  have hx0 := arrOf_get x 8
  have hy0 := arrOf_get y 8
  generalize arrOf x 8 = ax at *
  generalize arrOf y 8 = ay at *
  go_enter Try.func25, Try.ntmps25
  go_wp2
  go_loopw [5] (fun t wr => ∃ k m : Nat, k ≤ 8 ∧ cmpL x y k = cmpL x y 8 ∧ t = .int .i64 ((k : Int) - 1) ∧ wr = (((w.alloc (.cells ax 23)).alloc (.cells ay 23)).drewN m)) (fun t _ => (intOf t + 1).toNat)
  case atStart => exact ⟨8, 0, Nat.le_refl _, rfl, rfl, rfl⟩
  case round =>
    obtain ⟨k, m, hk, hs, rfl, rfl⟩ := hrel
    by_cases h0 : k = 0
    · subst h0
      have HS : Hid (cmpL x y 8 = 0) := hs.symm
      clear hs
      go_wp2
      go_ret
      exact ⟨ret_int HS.out.symm, below_alloc2 _ _ _ _⟩
    · obtain ⟨j, rfl⟩ : ∃ j, k = j + 1 := ⟨k - 1, by omega⟩
      have ej : ((j + 1 : Nat) : Int) - 1 = j := by omega
      have hj8 : (j : Int) < 8 := by omega
      rw [ej]
      have hcx := gx j (by omega)
      have hcy := gy j (by omega)
      have hgx := hx0 j
      have hgy := hy0 j
      have HS : Hid ((if x j < y j then -1 else if y j < x j then 1 else cmpL x y j) = cmpL x y 8) := hs
      have hkm : j ≤ 8 := by omega
      clear hs ej hk gx gy hx0 hy0 hx hy
      by_cases hlt : x j < y j
      · have HR : Hid (cmpL x y 8 = -1) := by rw [← HS.out, if_pos hlt]; rfl
        clear HS
        go_wp2
        go_quiet (fail)
        go_wp2
        go_ret
        exact ⟨ret_int HR.out.symm, below_drewN (below_alloc2 _ _ _ _) _⟩
      · by_cases hgt : y j < x j
        · have HR : Hid (cmpL x y 8 = 1) := by rw [← HS.out, if_neg hlt, if_pos hgt]; rfl
          clear HS
          go_wp2
          go_quiet (fail)
          go_wp2
          go_quiet (fail)
          go_wp2
          go_ret
          exact ⟨ret_int HR.out.symm, below_drewN (below_drewN (below_alloc2 _ _ _ _) _) _⟩
        · have HR : Hid (cmpL x y j = cmpL x y 8) := by rw [← HS.out, if_neg hlt, if_neg hgt]; rfl
          clear HS
          go_wp2
          go_quiet (fail)
          go_wp2
          go_quiet (fail)
          go_wp2
          go_roundw
          case rel => exact ⟨j, _, hkm, HR.out, by go_num, rfl⟩
          case measure => simp [intOf]
end Go.Proofs.Ytbbjkpcccimcbaa
