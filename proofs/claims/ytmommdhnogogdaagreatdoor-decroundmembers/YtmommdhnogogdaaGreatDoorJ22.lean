/-
  Texts that the proof leans on, joined: Gv, Ha, Xa, Xc, Wc, Ord, Rw, Lr, Xd, Sa, Sc.
-/
import Derived.Test.YtmommdhnogogdaaGreatDoorJ21
import Derived.Lib.ItoaLen
import Derived.Test.YtmommdhnogogdaaGreatDoorJ17
import Derived.Test.YtmommdhnogogdaaGreatDoorJ19
import Derived.Test.YtmommdhnogogdaaGreatDoorJ20
import Derived.Deep.Cut
import Derived.Deep.CutRange
import Derived.Deep.RegionWith
import Derived.Test.YtmommdhnogogdaaGreatDoorJ5
import Derived.StillTail
import Derived.Below
import Derived.WalkKit
import Derived.Test.YtmommdhnogogdaaGreatDoorJ13
import Derived.Test.YtmommdhnogogdaaGreatDoorJ16
import Derived.Test.YtmommdhnogogdaaGreatDoorJ1
set_option linter.unusedVariables false
set_option linter.unusedSimpArgs false
set_option maxRecDepth 20000
set_option linter.unusedSectionVars false
namespace Go.Proofs.YtmommdhnogogdaaGreatDoor
open Go.RowKit

def Tb10 (w : World) : Prop := Lib.TabIs Tryz.prog w "internal/strconv.uint64pow10" .u64 Lib.pow10Tab
theorem Tb10.next {w w' : World} (h : Tb10 w) (hb : Below w.heap.size w w') : Tb10 w' := Lib.tabBelow_of_tabIs h w' hb
end Go.Proofs.YtmommdhnogogdaaGreatDoor

namespace Go.Proofs.YtmommdhnogogdaaGreatDoor
open Go.RowKit

/-- good digits: none, or digits with no nought ahead -/
def gdD (d : List UInt8) : Prop := d = [] ∨ (isd d = true ∧ by_ d 0 ≠ 48)
theorem gdD_all {d : List UInt8} (h : gdD d) : d.all dg = true := by
  rcases h with rfl | ⟨h, _⟩
  · rfl
  · exact isd_all h
end Go.Proofs.YtmommdhnogogdaaGreatDoor

namespace Go.Proofs.YtmommdhnogogdaaGreatDoor
open Go.RowKit

attribute [local irreducible] W4 Nz Nt
/-- the number of digits -/
def dV (l : List UInt8) : Nat := (numV (B l) (B l).size).toNat
theorem sb_by (l : List UInt8) (i : Nat) : sb (B l) i = by_ l i := by
  unfold sb by_
  by_cases h : i < l.length
  · rw [dif_pos (show i < (B l).size from h), dif_pos h, B_get]
  · rw [dif_neg (show ¬ i < (B l).size from h), dif_neg h]
theorem dig_B {l : List UInt8} (h : l.all dg = true) : digB (B l) (B l).size = true := by
  refine digB_of _ fun k hk => ?_
  rw [sb_by]
  have hk' : k < l.length := hk
  have h1 := List.all_eq_true.1 h (l[k]'hk') (List.getElem_mem hk')
  unfold dg at h1
  unfold by_
  rw [dif_pos hk']
  have := of_decide_eq_true h1
  omega
theorem dV_lt {l : List UInt8} (h : l.all dg = true) : dV l < 10 ^ l.length ∧ (dV l : Int) = numV (B l) (B l).size := by
  obtain ⟨a, b⟩ := numV_bd _ (dig_B h)
  unfold dV
  generalize numV (B l) (B l).size = V at *
  rw [B_size] at b
  have : ((10 : Int) ^ l.length) = ((10 ^ l.length : Nat) : Int) := by simp
  rw [this] at b
  exact ⟨by omega, by omega⟩
end Go.Proofs.YtmommdhnogogdaaGreatDoor

namespace Go.Proofs.YtmommdhnogogdaaGreatDoor
open Go.RowKit

theorem bl_mul (a b : Nat) : bl (a * b) ≤ bl a + bl b := by
  refine bl_le.2 ?_
  rw [Nat.pow_add]
  have h1 := bl_le.1 (Nat.le_refl (bl a))
  have h2 := bl_le.1 (Nat.le_refl (bl b))
  exact Nat.mul_lt_mul'' h1 h2
attribute [local irreducible] W4 Nz Nt
end Go.Proofs.YtmommdhnogogdaaGreatDoor

namespace Go.Proofs.YtmommdhnogogdaaGreatDoor
open Go.RowKit

theorem val_odd {z : Nat → Int} {k V : Nat} (hk : 0 < k) (hv : val z k = (V : Int)) : (V : Int) % 2 = z 0 % 2 := by
  have key : ∀ j, val z (j + 1) % 2 = z 0 % 2 := by
    intro j
    induction j with
    | zero => simp [val]
    | succ j ih =>
      have : val z (j + 1 + 1) = val z (j + 1) + z (j + 1) * 18446744073709551616 ^ (j + 1) := rfl
      rw [this, Int.pow_succ, show z (j + 1) * (18446744073709551616 ^ j * 18446744073709551616) = 2 * (z (j + 1) * 18446744073709551616 ^ j * 9223372036854775808) by grind, Int.add_mul_emod_self_left]
      exact ih
  obtain ⟨j, rfl⟩ : ∃ j, k = j + 1 := ⟨k - 1, by omega⟩
  rw [← hv]; exact key j
set_option maxHeartbeats 400000 in
theorem q2_nv {K V : Nat} {v : Value} {w : World} (hK : K < 1000000) (h : NV K V v w) :
    Calls Tryz.prog 95 #[v] w fun e w' => e = .returned (.bool (decide (V % 2 = 1))) ∧ w = w' := by
  obtain ⟨g, k, cap, z, rfl, hk, hN, hv⟩ := h
  by_cases hk0 : k = 0
  · subst hk0
    obtain rfl : V = 0 := by have : val z 0 = 0 := rfl; omega
    go_enter Tryz.func95, Tryz.ntmps95
    go_wp2
    go_ret
    exact ⟨by simp, rfl⟩
  · have ho := val_odd (by omega) hv
    have hc : g < w.heap.size ∧ w.cell? ⟨g, 0, none⟩ = some (.int .u64 (z 0)) := by
      rcases hN.2.2.2.2 with ⟨h, _⟩ | ⟨b', off', h, hbs, hc⟩
      · cases h
      · cases h; exact ⟨hbs, hc 0 (by omega)⟩
    obtain ⟨hgb, hcc⟩ := hc
    have hz := hN.2.2.1 0
    have hki : (0 : Int) < k := by omega
    have hcap := hN.1
    have HO : Hid (decide (V % 2 = 1) = (z 0 % 2 == 1)) := by
      show _ = _
      by_cases h : z 0 % 2 = 1
      · rw [h]; simp; omega
      · rw [decide_eq_false (by omega)]; simp [h]
    clear hN ho hv
    go_enter Tryz.func95, Tryz.ntmps95
    go_wp2
    go_ret
    exact ⟨by rw [HO.out]; simp, rfl⟩
attribute [local irreducible] NV NT
section
variable (d hv : Int) (s odd : Bool) (va vb : Value) (Q : Nat) (w : World)
  (c99 : Calls Tryz.prog 16 #[va, vb] w fun e w1 => ∃ q g k cap, e = .returned (.tuple #[q, .slice (some ⟨g, 0, none⟩) k cap]) ∧ k ≠ 0 ∧ NV 41000 Q q w1 ∧ Below w.heap.size w w1 ∧ Calls Tryz.prog 43 #[.slice (some ⟨g, 0, none⟩) k cap, .int .i64 1] w1 fun e w2 => ∃ r2, e = .returned r2 ∧ Below w1.heap.size w1 w2 ∧ Calls Tryz.prog 37 #[r2, vb] w2 fun e w3 => e = .returned (.int .i64 hv) ∧ w2 = w3)
  (c100 : ∀ W q, NV 41000 Q q W → Calls Tryz.prog 95 #[q] W fun e w' => e = .returned (.bool odd) ∧ W = w')
  (c24 : ∀ W q v, NV 41000 Q q W → NV 1 1 v W → Calls Tryz.prog 55 #[q, v] W fun e w' => ∃ r, e = .returned r ∧ NV 41002 (Q + 1) r w' ∧ Below W.heap.size W w')
include c99 c100 c24
set_option maxHeartbeats 1000000 in
theorem wh_0g (h : 0 < hv) : Calls Tryz.prog 78 #[.int .i64 0, .bool s, va, vb] w fun e w' => ∃ q, e = .returned (.tuple #[q, .bool false]) ∧ NV 41002 (Q + 1) q w' ∧ Below w.heap.size w w' := by
  go_enter Tryz.func78, Tryz.ntmps78
  go_wp2_with (first
    | (go_at_call 16; refine c99.mono ?_; rintro e w1 ⟨q, g, k, cap, rfl, hk, hq, hb1, c84⟩; have hki : ((k : Int) == 0) = false := by simp; omega)
    | (go_at_call 43; refine c84.mono ?_; rintro e w2 ⟨r2, rfl, hb2, c21⟩; have hq2 := hq.next hb2; have hB2 := hb1.trans (hb2.mono hb1.size))
    | (go_at_call 37; refine c21.mono ?_; rintro e w3 ⟨rfl, rfl⟩)
    | (go_at_call 95; refine (c100 _ _ hq2).mono ?_; rintro e w4 ⟨rfl, rfl⟩)
    | (go_at_call 55; refine (c24 _ _ _ (hq2.next (below1 _ _)) (nv_uno rfl rfl (by decide))).mono ?_; rintro e w5 ⟨r5, rfl, hr5, hb5⟩))
  have hB3 := hB2.trans ((below1 w2 (.cells #[.int .u64 1] 22)).mono hB2.size)
  exact bodyPost_ret (v := .tuple #[r5, .bool false]) (by simp only [results, Tryz.results78]; go_simp) rfl ⟨_, rfl, hr5, hB3.trans (hb5.mono hB3.size)⟩
set_option maxHeartbeats 1000000 in
theorem wh_0eo (h : hv = 0) (h1 : odd = true) : Calls Tryz.prog 78 #[.int .i64 0, .bool s, va, vb] w fun e w' => ∃ q, e = .returned (.tuple #[q, .bool false]) ∧ NV 41002 (Q + 1) q w' ∧ Below w.heap.size w w' := by
  subst h h1
  go_enter Tryz.func78, Tryz.ntmps78
  go_wp2_with (first
    | (go_at_call 16; refine c99.mono ?_; rintro e w1 ⟨q, g, k, cap, rfl, hk, hq, hb1, c84⟩; have hki : ((k : Int) == 0) = false := by simp; omega)
    | (go_at_call 43; refine c84.mono ?_; rintro e w2 ⟨r2, rfl, hb2, c21⟩; have hq2 := hq.next hb2; have hB2 := hb1.trans (hb2.mono hb1.size))
    | (go_at_call 37; refine c21.mono ?_; rintro e w3 ⟨rfl, rfl⟩)
    | (go_at_call 95; refine (c100 _ _ hq2).mono ?_; rintro e w4 ⟨rfl, rfl⟩)
    | (go_at_call 55; refine (c24 _ _ _ (hq2.next (below1 _ _)) (nv_uno rfl rfl (by decide))).mono ?_; rintro e w5 ⟨r5, rfl, hr5, hb5⟩))
  have hB3 := hB2.trans ((below1 w2 (.cells #[.int .u64 1] 22)).mono hB2.size)
  exact bodyPost_ret (v := .tuple #[r5, .bool false]) (by simp only [results, Tryz.results78]; go_simp) rfl ⟨_, rfl, hr5, hB3.trans (hb5.mono hB3.size)⟩
set_option maxHeartbeats 1000000 in
theorem wh_0en (h : hv = 0) (h1 : odd = false) : Calls Tryz.prog 78 #[.int .i64 0, .bool s, va, vb] w fun e w' => ∃ q, e = .returned (.tuple #[q, .bool false]) ∧ NV 41002 (Q) q w' ∧ Below w.heap.size w w' := by
  subst h h1
  go_enter Tryz.func78, Tryz.ntmps78
  go_wp2_with (first
    | (go_at_call 16; refine c99.mono ?_; rintro e w1 ⟨q, g, k, cap, rfl, hk, hq, hb1, c84⟩; have hki : ((k : Int) == 0) = false := by simp; omega)
    | (go_at_call 43; refine c84.mono ?_; rintro e w2 ⟨r2, rfl, hb2, c21⟩; have hq2 := hq.next hb2; have hB2 := hb1.trans (hb2.mono hb1.size))
    | (go_at_call 37; refine c21.mono ?_; rintro e w3 ⟨rfl, rfl⟩)
    | (go_at_call 95; refine (c100 _ _ hq2).mono ?_; rintro e w4 ⟨rfl, rfl⟩)
    | (go_at_call 55; refine (c24 _ _ _ (hq2.next (below1 _ _)) (nv_uno rfl rfl (by decide))).mono ?_; rintro e w5 ⟨r5, rfl, hr5, hb5⟩))
  exact bodyPost_ret (v := .tuple #[q, .bool false]) (by simp only [results, Tryz.results78]; go_simp) rfl ⟨_, rfl, hq2.more (by decide), hB2⟩
set_option maxHeartbeats 1000000 in
theorem wh_0l (h : ¬ 0 < hv) (h1 : (hv == 0) = false) : Calls Tryz.prog 78 #[.int .i64 0, .bool s, va, vb] w fun e w' => ∃ q, e = .returned (.tuple #[q, .bool false]) ∧ NV 41002 (Q) q w' ∧ Below w.heap.size w w' := by
  go_enter Tryz.func78, Tryz.ntmps78
  go_wp2_with (first
    | (go_at_call 16; refine c99.mono ?_; rintro e w1 ⟨q, g, k, cap, rfl, hk, hq, hb1, c84⟩; have hki : ((k : Int) == 0) = false := by simp; omega)
    | (go_at_call 43; refine c84.mono ?_; rintro e w2 ⟨r2, rfl, hb2, c21⟩; have hq2 := hq.next hb2; have hB2 := hb1.trans (hb2.mono hb1.size))
    | (go_at_call 37; refine c21.mono ?_; rintro e w3 ⟨rfl, rfl⟩)
    | (go_at_call 95; refine (c100 _ _ hq2).mono ?_; rintro e w4 ⟨rfl, rfl⟩)
    | (go_at_call 55; refine (c24 _ _ _ (hq2.next (below1 _ _)) (nv_uno rfl rfl (by decide))).mono ?_; rintro e w5 ⟨r5, rfl, hr5, hb5⟩))
  exact bodyPost_ret (v := .tuple #[q, .bool false]) (by simp only [results, Tryz.results78]; go_simp) rfl ⟨_, rfl, hq2.more (by decide), hB2⟩
set_option maxHeartbeats 1000000 in
theorem wh_1g (h : 0 ≤ hv) : Calls Tryz.prog 78 #[.int .i64 1, .bool s, va, vb] w fun e w' => ∃ q, e = .returned (.tuple #[q, .bool false]) ∧ NV 41002 (Q + 1) q w' ∧ Below w.heap.size w w' := by
  go_enter Tryz.func78, Tryz.ntmps78
  go_wp2_with (first
    | (go_at_call 16; refine c99.mono ?_; rintro e w1 ⟨q, g, k, cap, rfl, hk, hq, hb1, c84⟩; have hki : ((k : Int) == 0) = false := by simp; omega)
    | (go_at_call 43; refine c84.mono ?_; rintro e w2 ⟨r2, rfl, hb2, c21⟩; have hq2 := hq.next hb2; have hB2 := hb1.trans (hb2.mono hb1.size))
    | (go_at_call 37; refine c21.mono ?_; rintro e w3 ⟨rfl, rfl⟩)
    | (go_at_call 95; refine (c100 _ _ hq2).mono ?_; rintro e w4 ⟨rfl, rfl⟩)
    | (go_at_call 55; refine (c24 _ _ _ (hq2.next (below1 _ _)) (nv_uno rfl rfl (by decide))).mono ?_; rintro e w5 ⟨r5, rfl, hr5, hb5⟩))
  have hB3 := hB2.trans ((below1 w2 (.cells #[.int .u64 1] 22)).mono hB2.size)
  exact bodyPost_ret (v := .tuple #[r5, .bool false]) (by simp only [results, Tryz.results78]; go_simp) rfl ⟨_, rfl, hr5, hB3.trans (hb5.mono hB3.size)⟩
set_option maxHeartbeats 1000000 in
theorem wh_1l (h : ¬ 0 ≤ hv) : Calls Tryz.prog 78 #[.int .i64 1, .bool s, va, vb] w fun e w' => ∃ q, e = .returned (.tuple #[q, .bool false]) ∧ NV 41002 (Q) q w' ∧ Below w.heap.size w w' := by
  go_enter Tryz.func78, Tryz.ntmps78
  go_wp2_with (first
    | (go_at_call 16; refine c99.mono ?_; rintro e w1 ⟨q, g, k, cap, rfl, hk, hq, hb1, c84⟩; have hki : ((k : Int) == 0) = false := by simp; omega)
    | (go_at_call 43; refine c84.mono ?_; rintro e w2 ⟨r2, rfl, hb2, c21⟩; have hq2 := hq.next hb2; have hB2 := hb1.trans (hb2.mono hb1.size))
    | (go_at_call 37; refine c21.mono ?_; rintro e w3 ⟨rfl, rfl⟩)
    | (go_at_call 95; refine (c100 _ _ hq2).mono ?_; rintro e w4 ⟨rfl, rfl⟩)
    | (go_at_call 55; refine (c24 _ _ _ (hq2.next (below1 _ _)) (nv_uno rfl rfl (by decide))).mono ?_; rintro e w5 ⟨r5, rfl, hr5, hb5⟩))
  exact bodyPost_ret (v := .tuple #[q, .bool false]) (by simp only [results, Tryz.results78]; go_simp) rfl ⟨_, rfl, hq2.more (by decide), hB2⟩
set_option maxHeartbeats 1000000 in
theorem wh_2  : Calls Tryz.prog 78 #[.int .i64 2, .bool s, va, vb] w fun e w' => ∃ q, e = .returned (.tuple #[q, .bool false]) ∧ NV 41002 (Q) q w' ∧ Below w.heap.size w w' := by
  go_enter Tryz.func78, Tryz.ntmps78
  go_wp2_with (first
    | (go_at_call 16; refine c99.mono ?_; rintro e w1 ⟨q, g, k, cap, rfl, hk, hq, hb1, c84⟩; have hki : ((k : Int) == 0) = false := by simp; omega)
    | (go_at_call 43; refine c84.mono ?_; rintro e w2 ⟨r2, rfl, hb2, c21⟩; have hq2 := hq.next hb2; have hB2 := hb1.trans (hb2.mono hb1.size))
    | (go_at_call 37; refine c21.mono ?_; rintro e w3 ⟨rfl, rfl⟩)
    | (go_at_call 95; refine (c100 _ _ hq2).mono ?_; rintro e w4 ⟨rfl, rfl⟩)
    | (go_at_call 55; refine (c24 _ _ _ (hq2.next (below1 _ _)) (nv_uno rfl rfl (by decide))).mono ?_; rintro e w5 ⟨r5, rfl, hr5, hb5⟩))
  exact bodyPost_ret (v := .tuple #[q, .bool false]) (by simp only [results, Tryz.results78]; go_simp) rfl ⟨_, rfl, hq2.more (by decide), hB2⟩
set_option maxHeartbeats 1000000 in
theorem wh_3f  : Calls Tryz.prog 78 #[.int .i64 3, .bool false, va, vb] w fun e w' => ∃ q, e = .returned (.tuple #[q, .bool false]) ∧ NV 41002 (Q + 1) q w' ∧ Below w.heap.size w w' := by
  go_enter Tryz.func78, Tryz.ntmps78
  go_wp2_with (first
    | (go_at_call 16; refine c99.mono ?_; rintro e w1 ⟨q, g, k, cap, rfl, hk, hq, hb1, c84⟩; have hki : ((k : Int) == 0) = false := by simp; omega)
    | (go_at_call 43; refine c84.mono ?_; rintro e w2 ⟨r2, rfl, hb2, c21⟩; have hq2 := hq.next hb2; have hB2 := hb1.trans (hb2.mono hb1.size))
    | (go_at_call 37; refine c21.mono ?_; rintro e w3 ⟨rfl, rfl⟩)
    | (go_at_call 95; refine (c100 _ _ hq2).mono ?_; rintro e w4 ⟨rfl, rfl⟩)
    | (go_at_call 55; refine (c24 _ _ _ (hq2.next (below1 _ _)) (nv_uno rfl rfl (by decide))).mono ?_; rintro e w5 ⟨r5, rfl, hr5, hb5⟩))
  have hB3 := hB2.trans ((below1 w2 (.cells #[.int .u64 1] 22)).mono hB2.size)
  exact bodyPost_ret (v := .tuple #[r5, .bool false]) (by simp only [results, Tryz.results78]; go_simp) rfl ⟨_, rfl, hr5, hB3.trans (hb5.mono hB3.size)⟩
set_option maxHeartbeats 1000000 in
theorem wh_3t  : Calls Tryz.prog 78 #[.int .i64 3, .bool true, va, vb] w fun e w' => ∃ q, e = .returned (.tuple #[q, .bool false]) ∧ NV 41002 (Q) q w' ∧ Below w.heap.size w w' := by
  go_enter Tryz.func78, Tryz.ntmps78
  go_wp2_with (first
    | (go_at_call 16; refine c99.mono ?_; rintro e w1 ⟨q, g, k, cap, rfl, hk, hq, hb1, c84⟩; have hki : ((k : Int) == 0) = false := by simp; omega)
    | (go_at_call 43; refine c84.mono ?_; rintro e w2 ⟨r2, rfl, hb2, c21⟩; have hq2 := hq.next hb2; have hB2 := hb1.trans (hb2.mono hb1.size))
    | (go_at_call 37; refine c21.mono ?_; rintro e w3 ⟨rfl, rfl⟩)
    | (go_at_call 95; refine (c100 _ _ hq2).mono ?_; rintro e w4 ⟨rfl, rfl⟩)
    | (go_at_call 55; refine (c24 _ _ _ (hq2.next (below1 _ _)) (nv_uno rfl rfl (by decide))).mono ?_; rintro e w5 ⟨r5, rfl, hr5, hb5⟩))
  exact bodyPost_ret (v := .tuple #[q, .bool false]) (by simp only [results, Tryz.results78]; go_simp) rfl ⟨_, rfl, hq2.more (by decide), hB2⟩
set_option maxHeartbeats 1000000 in
theorem wh_4t  : Calls Tryz.prog 78 #[.int .i64 4, .bool true, va, vb] w fun e w' => ∃ q, e = .returned (.tuple #[q, .bool false]) ∧ NV 41002 (Q + 1) q w' ∧ Below w.heap.size w w' := by
  go_enter Tryz.func78, Tryz.ntmps78
  go_wp2_with (first
    | (go_at_call 16; refine c99.mono ?_; rintro e w1 ⟨q, g, k, cap, rfl, hk, hq, hb1, c84⟩; have hki : ((k : Int) == 0) = false := by simp; omega)
    | (go_at_call 43; refine c84.mono ?_; rintro e w2 ⟨r2, rfl, hb2, c21⟩; have hq2 := hq.next hb2; have hB2 := hb1.trans (hb2.mono hb1.size))
    | (go_at_call 37; refine c21.mono ?_; rintro e w3 ⟨rfl, rfl⟩)
    | (go_at_call 95; refine (c100 _ _ hq2).mono ?_; rintro e w4 ⟨rfl, rfl⟩)
    | (go_at_call 55; refine (c24 _ _ _ (hq2.next (below1 _ _)) (nv_uno rfl rfl (by decide))).mono ?_; rintro e w5 ⟨r5, rfl, hr5, hb5⟩))
  have hB3 := hB2.trans ((below1 w2 (.cells #[.int .u64 1] 22)).mono hB2.size)
  exact bodyPost_ret (v := .tuple #[r5, .bool false]) (by simp only [results, Tryz.results78]; go_simp) rfl ⟨_, rfl, hr5, hB3.trans (hb5.mono hB3.size)⟩
set_option maxHeartbeats 1000000 in
theorem wh_4f  : Calls Tryz.prog 78 #[.int .i64 4, .bool false, va, vb] w fun e w' => ∃ q, e = .returned (.tuple #[q, .bool false]) ∧ NV 41002 (Q) q w' ∧ Below w.heap.size w w' := by
  go_enter Tryz.func78, Tryz.ntmps78
  go_wp2_with (first
    | (go_at_call 16; refine c99.mono ?_; rintro e w1 ⟨q, g, k, cap, rfl, hk, hq, hb1, c84⟩; have hki : ((k : Int) == 0) = false := by simp; omega)
    | (go_at_call 43; refine c84.mono ?_; rintro e w2 ⟨r2, rfl, hb2, c21⟩; have hq2 := hq.next hb2; have hB2 := hb1.trans (hb2.mono hb1.size))
    | (go_at_call 37; refine c21.mono ?_; rintro e w3 ⟨rfl, rfl⟩)
    | (go_at_call 95; refine (c100 _ _ hq2).mono ?_; rintro e w4 ⟨rfl, rfl⟩)
    | (go_at_call 55; refine (c24 _ _ _ (hq2.next (below1 _ _)) (nv_uno rfl rfl (by decide))).mono ?_; rintro e w5 ⟨r5, rfl, hr5, hb5⟩))
  exact bodyPost_ret (v := .tuple #[q, .bool false]) (by simp only [results, Tryz.results78]; go_simp) rfl ⟨_, rfl, hq2.more (by decide), hB2⟩
end
set_option maxHeartbeats 400000 in
theorem wh_z (d : Int) (s : Bool) (va vb : Value) (Q : Nat) (w : World)
    (c99 : Calls Tryz.prog 16 #[va, vb] w fun e w1 => ∃ q g cap, e = .returned (.tuple #[q, .slice (some ⟨g, 0, none⟩) 0 cap]) ∧ NV 41000 Q q w1 ∧ Below w.heap.size w w1) :
    Calls Tryz.prog 78 #[.int .i64 d, .bool s, va, vb] w fun e w' => ∃ q, e = .returned (.tuple #[q, .bool true]) ∧ NV 41002 Q q w' ∧ Below w.heap.size w w' := by
  go_enter Tryz.func78, Tryz.ntmps78
  go_wp2_with (go_at_call 16; refine c99.mono ?_; rintro e w1 ⟨q, g, cap, rfl, hq, hb1⟩)
  exact bodyPost_ret (v := .tuple #[q, .bool true]) (by simp only [results, Tryz.results78]; go_simp) rfl ⟨_, rfl, hq.more (by decide), hb1⟩
/-- the whole number that a direction takes -/
theorem whole_nt {K A B : Nat} {va vb : Value} {w : World} (d : Int) (s : Bool) (hkn : knB d) (hK : K ≤ 20000) (h : NT K A va w) (h' : NT K B vb w) (hB : B ≠ 0) :
    Calls Tryz.prog 78 #[.int .i64 d, .bool s, va, vb] w fun e w' => ∃ q, e = .returned (.tuple #[q, .bool (decide (A % B = 0))]) ∧ NV 41002 (whC d s A B) q w' ∧ Below w.heap.size w w' := by
  have c99 := rover_nt hK h h' hB
  unfold whC
  by_cases hR : A % B = 0
  · rw [decide_eq_true hR, hR, show faB d s (decide (A / B % 2 = 1)) 0 B = false from if_pos rfl]
    rw [hR] at c99
    refine wh_z d s va vb _ w (c99.mono fun e w1 ⟨q, r, e1, e2, e3, e4⟩ => ?_)
    obtain ⟨g, k, cap, rfl, _, hz⟩ := e3.zero
    obtain rfl := hz.2 rfl
    exact ⟨q, g, cap, e1, e2, e4⟩
  · rw [decide_eq_false hR]
    have c99' : Calls Tryz.prog 16 #[va, vb] w fun e w1 => ∃ q g k cap, e = .returned (.tuple #[q, .slice (some ⟨g, 0, none⟩) k cap]) ∧ k ≠ 0 ∧ NV 41000 (A / B) q w1 ∧ Below w.heap.size w w1 ∧ Calls Tryz.prog 43 #[.slice (some ⟨g, 0, none⟩) k cap, .int .i64 1] w1 fun e w2 => ∃ r2, e = .returned r2 ∧ Below w1.heap.size w1 w2 ∧ Calls Tryz.prog 37 #[r2, vb] w2 fun e w3 => e = .returned (.int .i64 (sgn ((A % B + A % B : Nat) : Int) (B : Int))) ∧ w2 = w3 := by
      refine c99.mono fun e w1 ⟨q, r, e1, e2, e3, e4⟩ => ?_
      have c84 := rleft_nt 1 (by decide) (by decide) e3.nv
      obtain ⟨g, k, cap, rfl, _, hz⟩ := e3.zero
      refine ⟨q, g, k, cap, e1, fun hk => hR (hz.1 hk), e2, e4, c84.mono fun e w2 ⟨r2, f1, f2, f3⟩ => ⟨r2, f1, f3, ?_⟩⟩
      have := rcmp_nv (by decide) (by omega) f2.nv ((h'.next e4).next f3).nv
      rw [Nat.pow_one, Nat.mul_two] at this
      exact this
    have c100 := fun W q (hq : NV 41000 (A / B) q W) => q2_nv (by decide) hq
    have c24 := fun W q v (hq : NV 41000 (A / B) q W) (h1 : NV 1 1 v W) => radd_nv (by decide) (by decide) hq h1
    have hd : d = 0 ∨ d = 1 ∨ d = 2 ∨ d = 3 ∨ d = 4 := by unfold knB at hkn; omega
    have sw := sgn_ways ((A % B + A % B : Nat) : Int) (B : Int)
    unfold faB
    rw [if_neg hR]
    rcases hd with rfl | rfl | rfl | rfl | rfl
    · rw [if_pos rfl]
      rcases sw with ⟨a, e⟩ | ⟨a, e⟩ | ⟨a, e⟩
      · rw [decide_eq_false (show ¬ B < A % B + A % B by omega), decide_eq_false (show ¬ A % B + A % B = B by omega)]
        exact wh_0l _ s _ va vb _ w c99' c100 c24 (by omega) (by rw [e]; rfl)
      · rw [decide_eq_false (show ¬ B < A % B + A % B by omega), decide_eq_true (show A % B + A % B = B by omega)]
        cases ho : decide (A / B % 2 = 1)
        · exact wh_0en _ s _ va vb _ w c99' c100 c24 e ho
        · exact wh_0eo _ s _ va vb _ w c99' c100 c24 e ho
      · rw [decide_eq_true (show B < A % B + A % B by omega)]
        exact wh_0g _ s _ va vb _ w c99' c100 c24 (by omega)
    · rw [if_neg (show ¬ (1 : Int) = 0 by decide), if_pos (show (1 : Int) = 1 from rfl)]
      rcases sw with ⟨a, e⟩ | ⟨a, e⟩ | ⟨a, e⟩
      · rw [decide_eq_false (show ¬ B ≤ A % B + A % B by omega)]
        exact wh_1l _ s _ va vb _ w c99' c100 c24 (by omega)
      · rw [decide_eq_true (show B ≤ A % B + A % B by omega)]
        exact wh_1g _ s _ va vb _ w c99' c100 c24 (by omega)
      · rw [decide_eq_true (show B ≤ A % B + A % B by omega)]
        exact wh_1g _ s _ va vb _ w c99' c100 c24 (by omega)
    · exact wh_2 _ s _ va vb _ w c99' c100 c24
    · cases s
      · exact wh_3f _ _ va vb _ w c99' c100 c24
      · exact wh_3t _ _ va vb _ w c99' c100 c24
    · cases s
      · exact wh_4f _ _ va vb _ w c99' c100 c24
      · exact wh_4t _ _ va vb _ w c99' c100 c24
end Go.Proofs.YtmommdhnogogdaaGreatDoor

namespace Go.Proofs.YtmommdhnogogdaaGreatDoor
open Go.RowKit

section
variable {P : Program} {ops : Array Oper} {Q : Exit → Act → World → Prop} {md : Region.Mode}

/-- how many of the first n are still to come -/
def toCome (listed : Array Bool) : Nat → Nat
  | 0 => 0
  | n + 1 => toCome listed n + (if listed.getD n true then 0 else 1)
theorem toCome_out {listed : Array Bool} {i : Nat} : ∀ n, n ≤ i → toCome (listed.setIfInBounds i true) n = toCome listed n
  | 0, _ => rfl
  | n + 1, h => by unfold toCome; rw [toCome_out n (by omega), getD_set_ne true (by omega)]
theorem toCome_set {listed : Array Bool} {i : Nat} (hu : listed.getD i true = false) : ∀ n, i < n → toCome (listed.setIfInBounds i true) n + 1 = toCome listed n
  | 0, h => by omega
  | n + 1, h => by
    unfold toCome
    by_cases e : i = n
    · subst e
      have hlt : i < listed.size := by
        rcases Nat.lt_or_ge i listed.size with h' | h'
        · exact h'
        · simp [Array.getElem?_eq_none h'] at hu
      rw [toCome_out i (Nat.le_refl _), hu]
      simp [hlt]
    · rw [getD_set_ne true e]
      have := toCome_set hu n (by omega)
      omega
theorem toCome_zero {listed : Array Bool} : ∀ n, toCome listed n = 0 → ∀ i, i < n → listed.getD i true = true
  | 0, _, i, h => by omega
  | n + 1, h, i, hi => by
    unfold toCome at h
    by_cases e : i = n
    · subst e
      by_cases hl : listed.getD i true = true
      · exact hl
      · rw [if_neg hl] at h; omega
    · exact toCome_zero n (by omega) i (by omega)
theorem toCome_least {listed : Array Bool} : ∀ n, 0 < toCome listed n → ∃ i, i < n ∧ listed.getD i true = false ∧ ∀ j, j < i → listed.getD j true = true
  | 0, h => by simp [toCome] at h
  | n + 1, h => by
    by_cases h0 : 0 < toCome listed n
    · obtain ⟨i, h1, h2, h3⟩ := toCome_least n h0
      exact ⟨i, by omega, h2, h3⟩
    · unfold toCome at h
      have hz := toCome_zero (listed := listed) n (by omega)
      refine ⟨n, by omega, ?_, fun j hj => hz j hj⟩
      cases hl : listed.getD n true with
      | false => rfl
      | true => rw [hl, if_pos rfl] at h; omega

/-- of the first n each waits for earlier ones alone -/
def backB (md : Region.Mode) (ops : Array Oper) (n : Nat) : Bool :=
  (List.range n).all fun i => match ops[i]? with
    | some o => o.after.all fun e => !Region.binds md e || decide (e.on < i)
    | none => false
theorem backB_spec {n : Nat} (h : backB md ops n = true) (i : Nat) (hi : i < n) : ∃ o, ops[i]? = some o ∧ ∀ e ∈ o.after, Region.binds md e = true → e.on < i := by
  have h1 := List.all_eq_true.1 h i (List.mem_range.2 hi)
  cases ho : ops[i]? with
  | none => simp only [ho] at h1; cases h1
  | some o =>
    simp only [ho] at h1
    refine ⟨o, rfl, fun e he hb => ?_⟩
    have h2 := Array.all_eq_true_iff_forall_mem.1 h1 e he
    simpa [hb] using h2

theorem getD_true_in {listed : Array Bool} {i : Nat} (hi : i < listed.size) (h : listed.getD i true = true) : listed.getD i false = true := by
  simp [hi] at h ⊢; exact h

/-- what stands when the first n are done -/
def headDone (n m : Nat) : Array Bool := (List.replicate n true ++ List.replicate (m - n) false).toArray

theorem headDone_eq {n : Nat} {listed : Array Bool} (hn : n ≤ ops.size) (inv : HeadInv md ops n listed) (h : ∀ i, i < n → listed.getD i true = true) : listed = headDone n ops.size := by
  apply Array.ext
  · simp [headDone, inv.size]; omega
  · intro i h1 h2
    by_cases hi : i < n
    · have := h i hi
      simp [h1] at this
      rw [this]
      simp [headDone, List.getElem_append, hi]
    · have := inv.tail i (by omega) (by rw [← inv.size]; exact h1)
      simp [h1] at this
      rw [this]
      simp [headDone, List.getElem_append, hi]

theorem toCome_replicate (m : Nat) : ∀ n, n ≤ m → toCome (Array.replicate m false) n = n
  | 0, _ => rfl
  | n + 1, h => by unfold toCome; rw [toCome_replicate m n (by omega)]; simp [show n < m by omega]

/-- all the checks of a region in one -/
def invB (md : Region.Mode) (ops : Array Oper) (n : Nat) : Bool :=
  Region.sinkB md ops n && Region.chainB md ops n && decide (n < ops.size) && backB md ops n && Region.seqB md ops (ops.size - n) n (headDone n ops.size)

/-- what slot t of a frame holds -/
abbrev slot (a : Act) (t : Nat) : Value := a.tmps[t]?.getD undef
theorem slot_put_ne {a : Act} {d t : Nat} {v : Value} (h : d ≠ t) : slot (a.put (some d) v) t = slot a t := by
  simp [slot, Act.put, Array.getElem?_setIfInBounds_ne h]
theorem slot_put {a : Act} {d : Nat} {v : Value} (h : d < a.tmps.size) : slot (a.put (some d) v) d = v := by
  simp [slot, Act.put, h]

end
end Go.Proofs.YtmommdhnogogdaaGreatDoor

namespace Go.Proofs.YtmommdhnogogdaaGreatDoor
open Go.RowKit

theorem puts_slot (a : Act) : ∀ (D : List Nat) (b : Act), (D.foldl (fun b d => b.put (some d) (slot a d)) b).tmps.size = b.tmps.size ∧ (D.foldl (fun b d => b.put (some d) (slot a d)) b).defers = b.defers ∧ ∀ t, t < b.tmps.size → slot (D.foldl (fun b d => b.put (some d) (slot a d)) b) t = if t ∈ D then slot a t else slot b t
  | [], b => ⟨rfl, rfl, fun t ht => by simp⟩
  | d :: D, b => by
    obtain ⟨h1, h2, h3⟩ := puts_slot a D (b.put (some d) (slot a d))
    have hs : (b.put (some d) (slot a d)).tmps.size = b.tmps.size := by simp [Act.put]
    refine ⟨h1.trans hs, h2, fun t ht => ?_⟩
    rw [List.foldl_cons, h3 t (by rw [hs]; exact ht)]
    by_cases hD : t ∈ D
    · rw [if_pos hD, if_pos (List.mem_cons_of_mem _ hD)]
    · rw [if_neg hD]
      by_cases hd : t = d
      · subst hd
        rw [if_pos List.mem_cons_self, slot_put ht]
      · rw [if_neg (by simp [hd, hD]), slot_put_ne (fun h => hd h.symm)]
theorem act_of {a a0 : Act} (D : List Nat) (n : Nat) (hn : D.length = n) (hsz : a.tmps.size = a0.tmps.size) (hdf : a.defers = a0.defers) (hF : ∀ t, (∀ i, i < n → D.getD i 0 ≠ t) → slot a t = slot a0 t) :
    a = D.foldl (fun b d => b.put (some d) (slot a d)) a0 := by
  obtain ⟨h1, h2, h3⟩ := puts_slot a D a0
  generalize D.foldl (fun b d => b.put (some d) (slot a d)) a0 = b at *
  have key : ∀ t, t < a0.tmps.size → slot a t = slot b t := fun t ht => by
    rw [h3 t ht]
    by_cases hD : t ∈ D
    · rw [if_pos hD]
    · rw [if_neg hD]
      refine hF t fun i hi e => hD ?_
      rw [← e, List.getD_eq_getElem?_getD, List.getElem?_eq_getElem (by omega)]
      exact List.getElem_mem _
  have ht : a.tmps = b.tmps := by
    apply Array.ext (by omega)
    intro i h4 h5
    have := key i (by omega)
    unfold slot at this
    rw [Array.getElem?_eq_getElem h4, Array.getElem?_eq_getElem h5] at this
    exact this
  cases a; cases b
  simp only at ht hdf h2 ⊢
  rw [ht, hdf, h2]

attribute [local irreducible] W4 NT NV
end Go.Proofs.YtmommdhnogogdaaGreatDoor

namespace Go.Proofs.YtmommdhnogogdaaGreatDoor
open Go.RowKit

/-- a block holds four words of a number, from a place on -/
structure Four (w : World) (g o k : Nat) : Prop where
  cell : ∀ i, i < 4 → w.cell? ⟨g, o + i, none⟩ = some (.int .u64 (W4 k i))
theorem Four.next {w w' : World} {g o k : Nat} (h : Four w g o k) (hg : g < w.heap.size) (hb : Below w.heap.size w w') : Four w' g o k :=
  ⟨fun i hi => by rw [hb.cell (p := ⟨g, o + i, none⟩) hg]; exact h.cell i hi⟩
/-- a block holds a datum -/
structure Dc (w : World) (g : Nat) (c : Int) (s b : Bool) (x : Int) (k : Nat) : Prop where
  c0 : w.cell? ⟨g, 0, none⟩ = some (.int .i64 c)
  c1 : w.cell? ⟨g, 1, none⟩ = some (.bool s)
  c2 : w.cell? ⟨g, 2, none⟩ = some (.bool b)
  c3 : w.cell? ⟨g, 3, none⟩ = some (.int .i64 x)
  c4 : w.cell? ⟨g, 4, none⟩ = some (.int .u64 (W4 k 0))
  c5 : w.cell? ⟨g, 5, none⟩ = some (.int .u64 (W4 k 1))
  c6 : w.cell? ⟨g, 6, none⟩ = some (.int .u64 (W4 k 2))
  c7 : w.cell? ⟨g, 7, none⟩ = some (.int .u64 (W4 k 3))
theorem Dc.next {w w' : World} {g : Nat} {c : Int} {s b : Bool} {x : Int} {k : Nat} (h : Dc w g c s b x k) (hg : g < w.heap.size) (hb : Below w.heap.size w w') : Dc w' g c s b x k :=
  ⟨by rw [hb.cell (p := ⟨g, 0, none⟩) hg, h.c0], by rw [hb.cell (p := ⟨g, 1, none⟩) hg, h.c1], by rw [hb.cell (p := ⟨g, 2, none⟩) hg, h.c2], by rw [hb.cell (p := ⟨g, 3, none⟩) hg, h.c3],
   by rw [hb.cell (p := ⟨g, 4, none⟩) hg, h.c4], by rw [hb.cell (p := ⟨g, 5, none⟩) hg, h.c5], by rw [hb.cell (p := ⟨g, 6, none⟩) hg, h.c6], by rw [hb.cell (p := ⟨g, 7, none⟩) hg, h.c7]⟩
/-- what stands in the words below i -/
def mo (A B i : Nat) : Bool := decide (val (W4 B) i < val (W4 A) i)
attribute [local irreducible] W4 mo
end Go.Proofs.YtmommdhnogogdaaGreatDoor

namespace Go.Proofs.YtmommdhnogogdaaGreatDoor
open Go.RowKit

theorem NT.tight {K K' V : Nat} {v : Value} {w : World} (h : NT K V v w) (hb : bl V ≤ 64 * K') : NT K' V v w := by
  obtain ⟨g, k, cap, z, h1, h2, h3, h4, h5⟩ := h
  exact ⟨g, k, cap, z, h1, by have := (size_bl (m := K') h3.2.2.1 h4).2 hb; omega, h3, h4, h5⟩
section
variable (x : Int) (vn vd : Value) (A KK : Nat) (w : World) (hx : -12000 ≤ x ∧ x ≤ 12000)
include hx
end
theorem ten_bl (k : Nat) : bl (10 ^ k) ≤ 4 * k + 1 := by
  refine bl_le.2 ?_
  have h1 : 10 ^ k ≤ 16 ^ k := Nat.pow_le_pow_left (by decide) k
  have h2 : (16 : Nat) ^ k = 2 ^ (4 * k) := by rw [Nat.pow_mul]
  have h3 : (2 : Nat) ^ (4 * k) < 2 ^ (4 * k + 1) := Nat.pow_lt_pow_right (by decide) (by omega)
  omega
attribute [local irreducible] W4 NT NV
end Go.Proofs.YtmommdhnogogdaaGreatDoor

namespace Go.Proofs.YtmommdhnogogdaaGreatDoor
open Go.RowKit

/-- a lies below b, or at it, if the ends count -/
def wiN (c : Bool) (a b : Nat) : Bool := decide (a < b) || (decide (a = b) && c)
/-- what is left ahead of digit k, over Z -/
def rsN (R Z : Nat) : Nat → Nat
  | 0 => R
  | k + 1 => 10 * (rsN R Z k % Z)
def unK (c : Bool) (R d Z k : Nat) : Bool := wiN c (rsN R Z k % Z) (10 ^ k * d)
def ovK (c : Bool) (R u Z k : Nat) : Bool := wiN c (Z - rsN R Z k % Z) (10 ^ k * u)
def stK (c : Bool) (R d u Z k : Nat) : Bool := unK c R d Z k || ovK c R u Z k
section
variable {c : Bool} {R d u Z : Nat} (hZ : 0 < Z)
include hZ
theorem un_big {k : Nat} (h : Z ≤ 10 ^ k * d) : stK c R d u Z k = true := by
  unfold stK unK wiN
  have := Nat.mod_lt (rsN R Z k) hZ
  have : rsN R Z k % Z < 10 ^ k * d := by omega
  simp [this]
theorem st_ex (hd : 0 < d) : ∃ K, stK c R d u Z K = true ∧ ∀ k, k < K → stK c R d u Z k = false := by
  have h1 : ∃ K, stK c R d u Z K = true := ⟨Z, un_big hZ (by
    have h1 : Z < 10 ^ Z := Nat.lt_pow_self (by decide)
    have h2 : 10 ^ Z * 1 ≤ 10 ^ Z * d := Nat.mul_le_mul_left _ hd
    omega)⟩
  obtain ⟨K, hK⟩ := h1
  induction K using Nat.strongRecOn with
  | ind K ih =>
    by_cases h : ∃ k, k < K ∧ stK c R d u Z k = true
    · obtain ⟨k, h1, h2⟩ := h
      exact ih k h1 h2
    · refine ⟨K, hK, fun k hk => ?_⟩
      cases hh : stK c R d u Z k
      · rfl
      · exact absurd ⟨k, hk, hh⟩ h
end
/-- a power of ten isn't above a fraction c times 2^x -/
def zE (x e : Int) : Nat := 4 * 2 ^ (-x).toNat * 10 ^ e.toNat
def oE (x e : Int) : Nat := 2 ^ x.toNat * 10 ^ (-e).toNat
theorem zE_pos (x e : Int) : 0 < zE x e := Nat.mul_pos (Nat.mul_pos (by decide) (Nat.two_pow_pos _)) (Nat.pow_pos (by decide))
theorem oE_pos (x e : Int) : 0 < oE x e := Nat.mul_pos (Nat.two_pow_pos _) (Nat.pow_pos (by decide))
def tnP (c : Nat) (x e : Int) : Prop := zE x e ≤ 4 * c * oE x e
theorem ten_le_two {t p : Nat} (h : 196 * t ≤ 59 * p) : 10 ^ t ≤ 2 ^ p := by
  rcases Nat.lt_or_ge (2 ^ p) (10 ^ t) with h1 | h1
  · exfalso
    have h2 : (2 ^ p) ^ 59 < (10 ^ t) ^ 59 := Nat.pow_lt_pow_left h1 (by decide)
    have h3 : (10 ^ 59) ^ t ≤ (2 ^ 196) ^ t := Nat.pow_le_pow_left (by decide) t
    have h4 : 2 ^ (196 * t) ≤ 2 ^ (59 * p) := Nat.pow_le_pow_right (by decide) h
    have e1 : ((2 : Nat) ^ p) ^ 59 = 2 ^ (59 * p) := by rw [← Nat.pow_mul, Nat.mul_comm]
    have e2 : ((10 : Nat) ^ t) ^ 59 = (10 ^ 59) ^ t := by rw [← Nat.pow_mul, ← Nat.pow_mul, Nat.mul_comm]
    have e3 : ((2 : Nat) ^ 196) ^ t = 2 ^ (196 * t) := by rw [← Nat.pow_mul]
    rw [e1, e2] at h2
    rw [e3] at h3
    omega
  · exact h1
theorem big_ten : (2 : Nat) ^ 100000 ≤ 10 ^ 30103 := by decide +kernel
theorem two_le_ten_n {n m t q : Nat} (hn : n ≠ 0) (hb : (2 : Nat) ^ n ≤ 10 ^ m) (h : m * q ≤ n * t) : 2 ^ q ≤ 10 ^ t := by
  rcases Nat.lt_or_ge (10 ^ t) (2 ^ q) with h1 | h1
  · exfalso
    have h2 : (10 ^ t) ^ n < (2 ^ q) ^ n := Nat.pow_lt_pow_left h1 hn
    have h3 : (2 ^ n) ^ q ≤ (10 ^ m) ^ q := Nat.pow_le_pow_left hb q
    have h4 : 10 ^ (m * q) ≤ 10 ^ (n * t) := Nat.pow_le_pow_right (by decide) h
    have e1 : ((10 : Nat) ^ t) ^ n = 10 ^ (n * t) := by rw [← Nat.pow_mul, Nat.mul_comm]
    have e2 : ((2 : Nat) ^ q) ^ n = (2 ^ n) ^ q := by rw [← Nat.pow_mul, ← Nat.pow_mul, Nat.mul_comm]
    have e3 : ((10 : Nat) ^ m) ^ q = 10 ^ (m * q) := by rw [← Nat.pow_mul]
    rw [e1, e2] at h2
    rw [e3] at h3
    omega
  · exact h1
theorem two_le_ten {t q : Nat} (h : 30103 * q ≤ 100000 * t) : 2 ^ q ≤ 10 ^ t := two_le_ten_n (by decide) big_ten h
/-- the guess is never too high -/
theorem guess_ok {c L : Nat} {x : Int} (hL : 2 ^ L ≤ c) (hb : -20000 ≤ (L : Int) + x ∧ (L : Int) + x ≤ 20000) : tnP c x ((((L : Int) + x) * 30103).tdiv 100000 - 1) := by
  have hq : (((L : Int) + x) * 30103).tdiv 100000 = if 0 ≤ (L : Int) + x then (((L : Int) + x) * 30103) / 100000 else -((-((L : Int) + x) * 30103) / 100000) := by
    split
    · rw [Int.tdiv_eq_ediv_of_nonneg (by omega)]
    · rw [show ((L : Int) + x) * 30103 = -(-((L : Int) + x) * 30103) by omega, Int.neg_tdiv, Int.tdiv_eq_ediv_of_nonneg (by omega)]
  generalize hg : (((L : Int) + x) * 30103).tdiv 100000 - 1 = g at *
  unfold tnP zE oE
  rw [Nat.mul_assoc 4, Nat.mul_assoc 4]
  refine Nat.mul_le_mul_left 4 ?_
  by_cases hg0 : 0 ≤ g
  · have hp : 0 ≤ (L : Int) + x := by
      rcases Int.lt_or_le ((L : Int) + x) 0 with h | h
      · rw [if_neg (by omega)] at hq; omega
      · exact h
    rw [if_pos hp] at hq
    have h1 : 10 ^ g.toNat ≤ 2 ^ ((L : Int) + x).toNat := ten_le_two (by omega)
    rw [show (-g).toNat = 0 by omega, Nat.pow_zero, Nat.mul_one]
    by_cases hx : 0 ≤ x
    · rw [show (-x).toNat = 0 by omega, Nat.pow_zero, Nat.one_mul]
      rw [show ((L : Int) + x).toNat = L + x.toNat by omega, Nat.pow_add] at h1
      exact Nat.le_trans h1 (Nat.mul_le_mul_right _ hL)
    · rw [show x.toNat = 0 by omega, Nat.pow_zero, Nat.mul_one]
      have h2 := Nat.mul_le_mul_left (2 ^ (-x).toNat) h1
      rw [← Nat.pow_add, show (-x).toNat + ((L : Int) + x).toNat = L by omega] at h2
      exact Nat.le_trans h2 hL
  · rw [show g.toNat = 0 by omega, Nat.pow_zero, Nat.mul_one]
    by_cases hp : 0 ≤ (L : Int) + x
    · have h1 : 2 ^ (-x).toNat ≤ c * 2 ^ x.toNat := by
        by_cases hx : 0 ≤ x
        · rw [show (-x).toNat = 0 by omega, Nat.pow_zero]
          have := Nat.two_pow_pos L
          exact Nat.mul_pos (by omega) (Nat.two_pow_pos _)
        · rw [show x.toNat = 0 by omega, Nat.pow_zero, Nat.mul_one]
          exact Nat.le_trans (Nat.pow_le_pow_right (by decide) (by omega)) hL
      rw [← Nat.mul_assoc]
      exact Nat.le_trans h1 (Nat.le_mul_of_pos_right _ (Nat.pow_pos (by decide)))
    · rw [if_neg hp] at hq
      have h1 : 2 ^ (-((L : Int) + x)).toNat ≤ 10 ^ (-g).toNat := two_le_ten (by omega)
      rw [show x.toNat = 0 by omega, Nat.pow_zero, Nat.one_mul]
      rw [show (-x).toNat = L + (-((L : Int) + x)).toNat by omega, Nat.pow_add]
      exact Nat.mul_le_mul hL h1
end Go.Proofs.YtmommdhnogogdaaGreatDoor

namespace Go.Proofs.YtmommdhnogogdaaGreatDoor
open Go.RowKit

theorem NT.nz {K V : Nat} {v : Value} {w : World} (h : NT K V v w) : Nz K V v w := by
  obtain ⟨g, k, cap, z, h1, h2, h3, h4, h5⟩ := h
  exact ⟨_, k, cap, z, h1, h2, h3, h4, h5⟩
theorem NT.nt {K V : Nat} {v : Value} {w : World} (h : NT K V v w) : Nt K V v w := h.nz.nt
theorem nmul_w {K K' A P : Nat} {v v' : Value} {w : World} (hK : K < 100000000) (hK' : K' < 100000000) (h : Nt K A v w) (h' : Nt K' P v' w) (hb : bl A + bl P ≤ 127000) :
    Calls Tryz.prog 65 #[v, v'] w fun r w' => ∃ q, r = .returned (.tuple #[q, .int .i64 0]) ∧ NT 2001 (A * P) q w' ∧ Below w.heap.size w w' := by
  obtain ⟨a, k, cap, z, rfl, hk, hN, hv⟩ := h
  obtain ⟨a', k', cap', z', rfl, hk', hN', hv'⟩ := h'
  have s1 := (size_bl (m := (bl A + 63) / 64) hN.2.2.1 hv).2 (by omega)
  have s2 := (size_bl (m := (bl P + 63) / 64) hN'.2.2.1 hv').2 (by omega)
  refine (nmul_any a a' k cap k' cap' z z' w (by omega) (by omega) hN hN' (by omega)).mono fun r w' ⟨g, q, cp, y, e1, hq, hNq, hvq, hsq, hB⟩ => ⟨_, e1, ⟨g, q, cp, y, rfl, by omega, hNq, ?_, hsq⟩, hB⟩
  rw [hvq, hv, hv']; simp
theorem nt_un1 {W : World} {g V : Nat} {vi : Int} (hg : g = W.heap.size) (hv : vi = (V : Int)) (hb : V < 18446744073709551616) (h0 : V ≠ 0) : NT 1 V (.slice (some ⟨g, 0, none⟩) 1 1) (W.alloc (.cells #[.int .u64 vi] 22)) := by
  subst hg hv
  refine ⟨_, 1, 1, oneW V, rfl, Nat.le_refl _, num_one W V (by omega), val_one1 V, ?_⟩
  have : oneW (V : Int) 0 ≠ 0 := by simp [oneW]; omega
  simp [sizeL, this]
attribute [local irreducible] W4 Nz Nt NT
theorem gs_bd (y : Int) (h : -200000 ≤ y ∧ y ≤ 200000) : -100000 ≤ (y * 30103).tdiv 100000 ∧ (y * 30103).tdiv 100000 ≤ 100000 := by
  by_cases h0 : 0 ≤ y
  · rw [Int.tdiv_eq_ediv_of_nonneg (by omega)]; omega
  · rw [show y * 30103 = -(-y * 30103) by omega, Int.neg_tdiv, Int.tdiv_eq_ediv_of_nonneg (by omega)]; omega
/-- the guessed place of the first digit -/
def gsP (k : Nat) (x : Int) : Int := (((bl k : Int) - 1 + x) * 30103).tdiv 100000 - 1
end Go.Proofs.YtmommdhnogogdaaGreatDoor
