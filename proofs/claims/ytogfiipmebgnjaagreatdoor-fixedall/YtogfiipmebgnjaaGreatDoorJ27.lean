/-
  Texts that the proof leans on, joined: Gv, Ha, Hb, Xa, Xc, Wc, Rl, Ord, Oa.
-/
import Derived.Test.YtogfiipmebgnjaaGreatDoorJ26
import Derived.Lib.ItoaLen
import Derived.Test.YtogfiipmebgnjaaGreatDoorJ17
import Derived.Test.YtogfiipmebgnjaaGreatDoorJ18
import Derived.Test.YtogfiipmebgnjaaGreatDoorJ11
import Derived.Test.YtogfiipmebgnjaaGreatDoorJ16
import Derived.Laws.IdiomCopy
import Derived.Test.YtogfiipmebgnjaaGreatDoorJ20
import Derived.Deep.Cut
import Derived.Deep.CutRange
import Derived.Deep.RegionWith
import Derived.Test.YtogfiipmebgnjaaGreatDoorJ6
import Derived.Test.YtogfiipmebgnjaaGreatDoorJ1
import Derived.StillTail
import Derived.Below
import Derived.WalkKit
set_option linter.unusedVariables false
set_option linter.unusedSimpArgs false
set_option maxRecDepth 20000
set_option linter.unusedSectionVars false
namespace Go.Proofs.YtogfiipmebgnjaaGreatDoor
open Go.RowKit

theorem cutE_some {l : List UInt8} {p : Prt} (h : cutP l = some p) : cutE l = 0 ∧ cutV l = p := by
  unfold cutE cutV
  have hl : ¬ 4000 < l.length := by
    intro h2; unfold cutP at h; rw [if_pos h2] at h; cases h
  rw [if_neg hl, h]; exact ⟨rfl, rfl⟩
def Tb10 (w : World) : Prop := Lib.TabIs Tryz.prog w "internal/strconv.uint64pow10" .u64 Lib.pow10Tab
theorem Tb10.next {w w' : World} (h : Tb10 w) (hb : Below w.heap.size w w') : Tb10 w' := Lib.tabBelow_of_tabIs h w' hb
end Go.Proofs.YtogfiipmebgnjaaGreatDoor

namespace Go.Proofs.YtogfiipmebgnjaaGreatDoor
open Go.RowKit

theorem dig_of (k : Nat) (h : k < 10) : dg (UInt8.ofNat (48 + k)) = true ∧ ((UInt8.ofNat (48 + k)).toNat : Int) = 48 + k := by
  have : (UInt8.ofNat (48 + k)).toNat = 48 + k := by
    rw [UInt8.toNat_ofNat']; omega
  refine ⟨?_, by omega⟩
  unfold dg; rw [this]; simp; omega
theorem dec_dg (u : Nat) : (Lib.decDigits u).all dg = true := by
  induction u using Nat.strongRecOn with
  | ind u ih =>
    rw [Lib.decDigits]
    split
    · rename_i h
      simp only [List.all_cons, List.all_nil, Bool.and_true]
      exact (dig_of u h).1
    · rename_i h
      rw [List.all_append, ih (u / 10) (by omega)]
      simp only [List.all_cons, List.all_nil, Bool.and_true, Bool.true_and]
      exact (dig_of (u % 10) (by omega)).1
theorem dec_nv (u : Nat) : nv (Lib.decDigits u) = u := by
  induction u using Nat.strongRecOn with
  | ind u ih =>
    rw [Lib.decDigits]
    split
    · rename_i h
      rw [gnv_one, (dig_of u h).2]; omega
    · rename_i h
      rw [nv_app, ih (u / 10) (by omega), gnv_one, (dig_of (u % 10) (by omega)).2]
      simp
      omega
theorem dec_ne (u : Nat) : Lib.decDigits u ≠ [] := by
  rw [Lib.decDigits]
  split
  · simp
  · simp
theorem dec_isd (u : Nat) : isd (Lib.decDigits u) = true := by
  unfold isd
  rw [dec_dg]
  simp [dec_ne u]
/-- no sign ahead of a digit -/
theorem sg_cons {c : UInt8} {r : List UInt8} (h : (c.toNat : Int) ≠ 45 ∧ (c.toNat : Int) ≠ 43) : gsgB (c :: r) = false ∧ sgR (c :: r) = c :: r := by
  refine ⟨by simp only [gsgB]; exact decide_eq_false h.1, ?_⟩
  simp only [sgR]
  rw [if_neg (by omega)]
theorem dg_nat {c : UInt8} (h : dg c = true) : 48 ≤ (c.toNat : Int) ∧ (c.toNat : Int) ≤ 57 := by
  unfold dg at h
  have := of_decide_eq_true h
  omega
theorem sg_all {l : List UInt8} (h : l.all dg = true) : gsgB l = false ∧ sgR l = l := by
  cases l with
  | nil => exact ⟨rfl, rfl⟩
  | cons c r =>
    rw [List.all_cons, Bool.and_eq_true] at h
    have := dg_nat h.1
    exact sg_cons ⟨by omega, by omega⟩
theorem exT_cut (e : Int) (h : -1000000000 ≤ e ∧ e ≤ 1000000000) : exB (exT e) = true ∧ exI (exT e) = e ∧ Lib.hasPrefix (exT e) [46] = false ∧ dgs (exT e) = [] ∧ rst (exT e) = exT e := by
  unfold exT
  split
  · rename_i h0; subst h0; exact ⟨rfl, rfl, rfl, rfl, rfl⟩
  · rename_i h0
    have hi : isd (sgR (Lib.itoa e)) = true ∧ exS (Lib.itoa e) = e := by
      unfold Lib.itoa
      split
      · rename_i h1
        have e1 : gsgB (45 :: Lib.decDigits e.natAbs) = true := rfl
        have e2 : sgR (45 :: Lib.decDigits e.natAbs) = Lib.decDigits e.natAbs := rfl
        unfold exS
        rw [e1, e2, if_pos rfl]
        refine ⟨dec_isd _, ?_⟩
        unfold vc; rw [dec_nv]; omega
      · rename_i h1
        obtain ⟨e1, e2⟩ := sg_all (dec_dg e.toNat)
        unfold exS
        rw [e1, e2]
        refine ⟨dec_isd _, ?_⟩
        rw [if_neg (by decide)]
        unfold vc; rw [dec_nv]; omega
    have hx : exB (101 :: Lib.itoa e) = true := by
      simp only [exB]
      rw [hi.1]; rfl
    refine ⟨hx, ?_, rfl, rfl, rfl⟩
    simp only [exI]
    rw [if_pos hx]
    exact hi.2
theorem dgs_app2 {l m : List UInt8} (h : l.all dg = true) (hm : dgs m = []) : dgs (l ++ m) = l ∧ rst (l ++ m) = m := by
  have h1 : dgs (l ++ m) = l := by
    induction l with
    | nil => exact hm
    | cons c r ih =>
      rw [List.all_cons, Bool.and_eq_true] at h
      unfold dgs at ih ⊢
      rw [List.cons_append, List.takeWhile_cons, if_pos h.1, ih h.2]
  refine ⟨h1, ?_⟩
  have e := dgs_rst (l ++ m)
  rw [h1] at e
  exact List.append_cancel_left e
/-- good digits: none, or digits with no nought ahead -/
def gdD (d : List UInt8) : Prop := d = [] ∨ (isd d = true ∧ by_ d 0 ≠ 48)
theorem gdD_all {d : List UInt8} (h : gdD d) : d.all dg = true := by
  rcases h with rfl | ⟨h, _⟩
  · rfl
  · exact isd_all h
theorem sig_app (s : Bool) (c : UInt8) (r : List UInt8) (h : (c.toNat : Int) ≠ 45 ∧ (c.toNat : Int) ≠ 43) : gsgB ((if s then [45] else []) ++ (c :: r)) = s ∧ sgR ((if s then [45] else []) ++ (c :: r)) = c :: r := by
  cases s
  · exact sg_cons h
  · exact ⟨rfl, rfl⟩
end Go.Proofs.YtogfiipmebgnjaaGreatDoor

namespace Go.Proofs.YtogfiipmebgnjaaGreatDoor
open Go.RowKit

theorem itoa_any (e : Int) (w : World) (he : -9223372036854775808 ≤ e ∧ e ≤ 9223372036854775807) (hT : Tb10 w) :
    Calls Tryz.prog 52 #[.int .i64 e] w fun x w' => x = .returned (.string (B (Lib.itoa e))) ∧ Below w.heap.size w w' := by
  refine (Tryz.strconv_Itoa e he.1 he.2 w hT).mono ?_
  rintro x w' ⟨rfl, k, os, rfl⟩
  exact ⟨rfl, ⟨rfl, rfl, rfl, by show w.heap.size ≤ (w.heap ++ os).size; simp, fun b hb => by show (w.heap ++ os)[b]? = w.heap[b]?; rw [Array.getElem?_append_left hb]⟩⟩
end Go.Proofs.YtogfiipmebgnjaaGreatDoor

namespace Go.Proofs.YtogfiipmebgnjaaGreatDoor
open Go.RowKit

attribute [local irreducible] W4 Nz Nt
/-- the number of digits -/
def dV (l : List UInt8) : Nat := (numV (B l) (B l).size).toNat
theorem sb_by (l : List UInt8) (i : Nat) : sb (B l) i = by_ l i := by
  unfold sb by_
  by_cases h : i < l.length
  · rw [dif_pos (show i < (B l).size from h), dif_pos h, B_get]
  · rw [dif_neg (show ¬ i < (B l).size from h), dif_neg h]
theorem dig_B {l : List UInt8} (h : l.all dg = true) : digB (B l) (B l).size = true := by
  refine digB_of _ fun k hk => ?_
  rw [sb_by]
  have hk' : k < l.length := hk
  have h1 := List.all_eq_true.1 h (l[k]'hk') (List.getElem_mem hk')
  unfold dg at h1
  unfold by_
  rw [dif_pos hk']
  have := of_decide_eq_true h1
  omega
theorem dV_lt {l : List UInt8} (h : l.all dg = true) : dV l < 10 ^ l.length ∧ (dV l : Int) = numV (B l) (B l).size := by
  obtain ⟨a, b⟩ := numV_bd _ (dig_B h)
  unfold dV
  generalize numV (B l) (B l).size = V at *
  rw [B_size] at b
  have : ((10 : Int) ^ l.length) = ((10 ^ l.length : Nat) : Int) := by simp
  rw [this] at b
  exact ⟨by omega, by omega⟩
theorem bl_10 {A L k : Nat} (h : A < 10 ^ L) (hk : 4 * L ≤ k) : bl A ≤ k := by
  refine bl_le.2 (Nat.lt_of_lt_of_le h ?_)
  have h1 : 10 ^ L ≤ 16 ^ L := Nat.pow_le_pow_left (by decide) L
  have h2 : (16 : Nat) ^ L = 2 ^ (4 * L) := by rw [Nat.pow_mul]
  exact Nat.le_trans h1 (h2 ▸ Nat.pow_le_pow_right (by decide) hk)
end Go.Proofs.YtogfiipmebgnjaaGreatDoor

namespace Go.Proofs.YtogfiipmebgnjaaGreatDoor
open Go.RowKit

theorem bl_mul (a b : Nat) : bl (a * b) ≤ bl a + bl b := by
  refine bl_le.2 ?_
  rw [Nat.pow_add]
  have h1 := bl_le.1 (Nat.le_refl (bl a))
  have h2 := bl_le.1 (Nat.le_refl (bl b))
  exact Nat.mul_lt_mul'' h1 h2
attribute [local irreducible] W4 Nz Nt
end Go.Proofs.YtogfiipmebgnjaaGreatDoor

namespace Go.Proofs.YtogfiipmebgnjaaGreatDoor
open Go.RowKit

theorem val_odd {z : Nat → Int} {k V : Nat} (hk : 0 < k) (hv : val z k = (V : Int)) : (V : Int) % 2 = z 0 % 2 := by
  have key : ∀ j, val z (j + 1) % 2 = z 0 % 2 := by
    intro j
    induction j with
    | zero => simp [val]
    | succ j ih =>
      have : val z (j + 1 + 1) = val z (j + 1) + z (j + 1) * 18446744073709551616 ^ (j + 1) := rfl
      rw [this, Int.pow_succ, show z (j + 1) * (18446744073709551616 ^ j * 18446744073709551616) = 2 * (z (j + 1) * 18446744073709551616 ^ j * 9223372036854775808) by grind, Int.add_mul_emod_self_left]
      exact ih
  obtain ⟨j, rfl⟩ : ∃ j, k = j + 1 := ⟨k - 1, by omega⟩
  rw [← hv]; exact key j
set_option maxHeartbeats 400000 in
theorem q2_nv {K V : Nat} {v : Value} {w : World} (hK : K < 1000000) (h : NV K V v w) :
    Calls Tryz.prog 75 #[v] w fun e w' => e = .returned (.bool (decide (V % 2 = 1))) ∧ w = w' := by
  obtain ⟨g, k, cap, z, rfl, hk, hN, hv⟩ := h
  by_cases hk0 : k = 0
  · subst hk0
    obtain rfl : V = 0 := by have : val z 0 = 0 := rfl; omega
    go_enter Tryz.func75, Tryz.ntmps75
    go_wp2
    go_ret
    exact ⟨by simp, rfl⟩
  · have ho := val_odd (by omega) hv
    have hc : g < w.heap.size ∧ w.cell? ⟨g, 0, none⟩ = some (.int .u64 (z 0)) := by
      rcases hN.2.2.2.2 with ⟨h, _⟩ | ⟨b', off', h, hbs, hc⟩
      · cases h
      · cases h; exact ⟨hbs, hc 0 (by omega)⟩
    obtain ⟨hgb, hcc⟩ := hc
    have hz := hN.2.2.1 0
    have hki : (0 : Int) < k := by omega
    have hcap := hN.1
    have HO : Hid (decide (V % 2 = 1) = (z 0 % 2 == 1)) := by
      show _ = _
      by_cases h : z 0 % 2 = 1
      · rw [h]; simp; omega
      · rw [decide_eq_false (by omega)]; simp [h]
    clear hN ho hv
    go_enter Tryz.func75, Tryz.ntmps75
    go_wp2
    go_ret
    exact ⟨by rw [HO.out]; simp, rfl⟩
attribute [local irreducible] NV NT
section
variable (d hv : Int) (s odd : Bool) (va vb : Value) (Q : Nat) (w : World)
  (c99 : Calls Tryz.prog 74 #[va, vb] w fun e w1 => ∃ q g k cap, e = .returned (.tuple #[q, .slice (some ⟨g, 0, none⟩) k cap]) ∧ k ≠ 0 ∧ NV 41000 Q q w1 ∧ Below w.heap.size w w1 ∧ Calls Tryz.prog 37 #[.slice (some ⟨g, 0, none⟩) k cap, .int .i64 1] w1 fun e w2 => ∃ r2, e = .returned r2 ∧ Below w1.heap.size w1 w2 ∧ Calls Tryz.prog 18 #[r2, vb] w2 fun e w3 => e = .returned (.int .i64 hv) ∧ w2 = w3)
  (c100 : ∀ W q, NV 41000 Q q W → Calls Tryz.prog 75 #[q] W fun e w' => e = .returned (.bool odd) ∧ W = w')
  (c24 : ∀ W q v, NV 41000 Q q W → NV 1 1 v W → Calls Tryz.prog 72 #[q, v] W fun e w' => ∃ r, e = .returned r ∧ NV 41002 (Q + 1) r w' ∧ Below W.heap.size W w')
include c99 c100 c24
set_option maxHeartbeats 1000000 in
theorem wh_0g (h : 0 < hv) : Calls Tryz.prog 30 #[.int .i64 0, .bool s, va, vb] w fun e w' => ∃ q, e = .returned (.tuple #[q, .bool false]) ∧ NV 41002 (Q + 1) q w' ∧ Below w.heap.size w w' := by
  go_enter Tryz.func30, Tryz.ntmps30
  go_wp2_with (first
    | (go_at_call 74; refine c99.mono ?_; rintro e w1 ⟨q, g, k, cap, rfl, hk, hq, hb1, c84⟩; have hki : ((k : Int) == 0) = false := by simp; omega)
    | (go_at_call 37; refine c84.mono ?_; rintro e w2 ⟨r2, rfl, hb2, c21⟩; have hq2 := hq.next hb2; have hB2 := hb1.trans (hb2.mono hb1.size))
    | (go_at_call 18; refine c21.mono ?_; rintro e w3 ⟨rfl, rfl⟩)
    | (go_at_call 75; refine (c100 _ _ hq2).mono ?_; rintro e w4 ⟨rfl, rfl⟩)
    | (go_at_call 72; refine (c24 _ _ _ (hq2.next (below1 _ _)) (nv_uno rfl rfl (by decide))).mono ?_; rintro e w5 ⟨r5, rfl, hr5, hb5⟩))
  have hB3 := hB2.trans ((below1 w2 (.cells #[.int .u64 1] 22)).mono hB2.size)
  exact bodyPost_ret (v := .tuple #[r5, .bool false]) (by simp only [results, Tryz.results30]; go_simp) rfl ⟨_, rfl, hr5, hB3.trans (hb5.mono hB3.size)⟩
set_option maxHeartbeats 1000000 in
theorem wh_0eo (h : hv = 0) (h1 : odd = true) : Calls Tryz.prog 30 #[.int .i64 0, .bool s, va, vb] w fun e w' => ∃ q, e = .returned (.tuple #[q, .bool false]) ∧ NV 41002 (Q + 1) q w' ∧ Below w.heap.size w w' := by
  subst h h1
  go_enter Tryz.func30, Tryz.ntmps30
  go_wp2_with (first
    | (go_at_call 74; refine c99.mono ?_; rintro e w1 ⟨q, g, k, cap, rfl, hk, hq, hb1, c84⟩; have hki : ((k : Int) == 0) = false := by simp; omega)
    | (go_at_call 37; refine c84.mono ?_; rintro e w2 ⟨r2, rfl, hb2, c21⟩; have hq2 := hq.next hb2; have hB2 := hb1.trans (hb2.mono hb1.size))
    | (go_at_call 18; refine c21.mono ?_; rintro e w3 ⟨rfl, rfl⟩)
    | (go_at_call 75; refine (c100 _ _ hq2).mono ?_; rintro e w4 ⟨rfl, rfl⟩)
    | (go_at_call 72; refine (c24 _ _ _ (hq2.next (below1 _ _)) (nv_uno rfl rfl (by decide))).mono ?_; rintro e w5 ⟨r5, rfl, hr5, hb5⟩))
  have hB3 := hB2.trans ((below1 w2 (.cells #[.int .u64 1] 22)).mono hB2.size)
  exact bodyPost_ret (v := .tuple #[r5, .bool false]) (by simp only [results, Tryz.results30]; go_simp) rfl ⟨_, rfl, hr5, hB3.trans (hb5.mono hB3.size)⟩
set_option maxHeartbeats 1000000 in
theorem wh_0en (h : hv = 0) (h1 : odd = false) : Calls Tryz.prog 30 #[.int .i64 0, .bool s, va, vb] w fun e w' => ∃ q, e = .returned (.tuple #[q, .bool false]) ∧ NV 41002 (Q) q w' ∧ Below w.heap.size w w' := by
  subst h h1
  go_enter Tryz.func30, Tryz.ntmps30
  go_wp2_with (first
    | (go_at_call 74; refine c99.mono ?_; rintro e w1 ⟨q, g, k, cap, rfl, hk, hq, hb1, c84⟩; have hki : ((k : Int) == 0) = false := by simp; omega)
    | (go_at_call 37; refine c84.mono ?_; rintro e w2 ⟨r2, rfl, hb2, c21⟩; have hq2 := hq.next hb2; have hB2 := hb1.trans (hb2.mono hb1.size))
    | (go_at_call 18; refine c21.mono ?_; rintro e w3 ⟨rfl, rfl⟩)
    | (go_at_call 75; refine (c100 _ _ hq2).mono ?_; rintro e w4 ⟨rfl, rfl⟩)
    | (go_at_call 72; refine (c24 _ _ _ (hq2.next (below1 _ _)) (nv_uno rfl rfl (by decide))).mono ?_; rintro e w5 ⟨r5, rfl, hr5, hb5⟩))
  exact bodyPost_ret (v := .tuple #[q, .bool false]) (by simp only [results, Tryz.results30]; go_simp) rfl ⟨_, rfl, hq2.more (by decide), hB2⟩
set_option maxHeartbeats 1000000 in
theorem wh_0l (h : ¬ 0 < hv) (h1 : (hv == 0) = false) : Calls Tryz.prog 30 #[.int .i64 0, .bool s, va, vb] w fun e w' => ∃ q, e = .returned (.tuple #[q, .bool false]) ∧ NV 41002 (Q) q w' ∧ Below w.heap.size w w' := by
  go_enter Tryz.func30, Tryz.ntmps30
  go_wp2_with (first
    | (go_at_call 74; refine c99.mono ?_; rintro e w1 ⟨q, g, k, cap, rfl, hk, hq, hb1, c84⟩; have hki : ((k : Int) == 0) = false := by simp; omega)
    | (go_at_call 37; refine c84.mono ?_; rintro e w2 ⟨r2, rfl, hb2, c21⟩; have hq2 := hq.next hb2; have hB2 := hb1.trans (hb2.mono hb1.size))
    | (go_at_call 18; refine c21.mono ?_; rintro e w3 ⟨rfl, rfl⟩)
    | (go_at_call 75; refine (c100 _ _ hq2).mono ?_; rintro e w4 ⟨rfl, rfl⟩)
    | (go_at_call 72; refine (c24 _ _ _ (hq2.next (below1 _ _)) (nv_uno rfl rfl (by decide))).mono ?_; rintro e w5 ⟨r5, rfl, hr5, hb5⟩))
  exact bodyPost_ret (v := .tuple #[q, .bool false]) (by simp only [results, Tryz.results30]; go_simp) rfl ⟨_, rfl, hq2.more (by decide), hB2⟩
set_option maxHeartbeats 1000000 in
theorem wh_1g (h : 0 ≤ hv) : Calls Tryz.prog 30 #[.int .i64 1, .bool s, va, vb] w fun e w' => ∃ q, e = .returned (.tuple #[q, .bool false]) ∧ NV 41002 (Q + 1) q w' ∧ Below w.heap.size w w' := by
  go_enter Tryz.func30, Tryz.ntmps30
  go_wp2_with (first
    | (go_at_call 74; refine c99.mono ?_; rintro e w1 ⟨q, g, k, cap, rfl, hk, hq, hb1, c84⟩; have hki : ((k : Int) == 0) = false := by simp; omega)
    | (go_at_call 37; refine c84.mono ?_; rintro e w2 ⟨r2, rfl, hb2, c21⟩; have hq2 := hq.next hb2; have hB2 := hb1.trans (hb2.mono hb1.size))
    | (go_at_call 18; refine c21.mono ?_; rintro e w3 ⟨rfl, rfl⟩)
    | (go_at_call 75; refine (c100 _ _ hq2).mono ?_; rintro e w4 ⟨rfl, rfl⟩)
    | (go_at_call 72; refine (c24 _ _ _ (hq2.next (below1 _ _)) (nv_uno rfl rfl (by decide))).mono ?_; rintro e w5 ⟨r5, rfl, hr5, hb5⟩))
  have hB3 := hB2.trans ((below1 w2 (.cells #[.int .u64 1] 22)).mono hB2.size)
  exact bodyPost_ret (v := .tuple #[r5, .bool false]) (by simp only [results, Tryz.results30]; go_simp) rfl ⟨_, rfl, hr5, hB3.trans (hb5.mono hB3.size)⟩
set_option maxHeartbeats 1000000 in
theorem wh_1l (h : ¬ 0 ≤ hv) : Calls Tryz.prog 30 #[.int .i64 1, .bool s, va, vb] w fun e w' => ∃ q, e = .returned (.tuple #[q, .bool false]) ∧ NV 41002 (Q) q w' ∧ Below w.heap.size w w' := by
  go_enter Tryz.func30, Tryz.ntmps30
  go_wp2_with (first
    | (go_at_call 74; refine c99.mono ?_; rintro e w1 ⟨q, g, k, cap, rfl, hk, hq, hb1, c84⟩; have hki : ((k : Int) == 0) = false := by simp; omega)
    | (go_at_call 37; refine c84.mono ?_; rintro e w2 ⟨r2, rfl, hb2, c21⟩; have hq2 := hq.next hb2; have hB2 := hb1.trans (hb2.mono hb1.size))
    | (go_at_call 18; refine c21.mono ?_; rintro e w3 ⟨rfl, rfl⟩)
    | (go_at_call 75; refine (c100 _ _ hq2).mono ?_; rintro e w4 ⟨rfl, rfl⟩)
    | (go_at_call 72; refine (c24 _ _ _ (hq2.next (below1 _ _)) (nv_uno rfl rfl (by decide))).mono ?_; rintro e w5 ⟨r5, rfl, hr5, hb5⟩))
  exact bodyPost_ret (v := .tuple #[q, .bool false]) (by simp only [results, Tryz.results30]; go_simp) rfl ⟨_, rfl, hq2.more (by decide), hB2⟩
set_option maxHeartbeats 1000000 in
theorem wh_2  : Calls Tryz.prog 30 #[.int .i64 2, .bool s, va, vb] w fun e w' => ∃ q, e = .returned (.tuple #[q, .bool false]) ∧ NV 41002 (Q) q w' ∧ Below w.heap.size w w' := by
  go_enter Tryz.func30, Tryz.ntmps30
  go_wp2_with (first
    | (go_at_call 74; refine c99.mono ?_; rintro e w1 ⟨q, g, k, cap, rfl, hk, hq, hb1, c84⟩; have hki : ((k : Int) == 0) = false := by simp; omega)
    | (go_at_call 37; refine c84.mono ?_; rintro e w2 ⟨r2, rfl, hb2, c21⟩; have hq2 := hq.next hb2; have hB2 := hb1.trans (hb2.mono hb1.size))
    | (go_at_call 18; refine c21.mono ?_; rintro e w3 ⟨rfl, rfl⟩)
    | (go_at_call 75; refine (c100 _ _ hq2).mono ?_; rintro e w4 ⟨rfl, rfl⟩)
    | (go_at_call 72; refine (c24 _ _ _ (hq2.next (below1 _ _)) (nv_uno rfl rfl (by decide))).mono ?_; rintro e w5 ⟨r5, rfl, hr5, hb5⟩))
  exact bodyPost_ret (v := .tuple #[q, .bool false]) (by simp only [results, Tryz.results30]; go_simp) rfl ⟨_, rfl, hq2.more (by decide), hB2⟩
set_option maxHeartbeats 1000000 in
theorem wh_3f  : Calls Tryz.prog 30 #[.int .i64 3, .bool false, va, vb] w fun e w' => ∃ q, e = .returned (.tuple #[q, .bool false]) ∧ NV 41002 (Q + 1) q w' ∧ Below w.heap.size w w' := by
  go_enter Tryz.func30, Tryz.ntmps30
  go_wp2_with (first
    | (go_at_call 74; refine c99.mono ?_; rintro e w1 ⟨q, g, k, cap, rfl, hk, hq, hb1, c84⟩; have hki : ((k : Int) == 0) = false := by simp; omega)
    | (go_at_call 37; refine c84.mono ?_; rintro e w2 ⟨r2, rfl, hb2, c21⟩; have hq2 := hq.next hb2; have hB2 := hb1.trans (hb2.mono hb1.size))
    | (go_at_call 18; refine c21.mono ?_; rintro e w3 ⟨rfl, rfl⟩)
    | (go_at_call 75; refine (c100 _ _ hq2).mono ?_; rintro e w4 ⟨rfl, rfl⟩)
    | (go_at_call 72; refine (c24 _ _ _ (hq2.next (below1 _ _)) (nv_uno rfl rfl (by decide))).mono ?_; rintro e w5 ⟨r5, rfl, hr5, hb5⟩))
  have hB3 := hB2.trans ((below1 w2 (.cells #[.int .u64 1] 22)).mono hB2.size)
  exact bodyPost_ret (v := .tuple #[r5, .bool false]) (by simp only [results, Tryz.results30]; go_simp) rfl ⟨_, rfl, hr5, hB3.trans (hb5.mono hB3.size)⟩
set_option maxHeartbeats 1000000 in
theorem wh_3t  : Calls Tryz.prog 30 #[.int .i64 3, .bool true, va, vb] w fun e w' => ∃ q, e = .returned (.tuple #[q, .bool false]) ∧ NV 41002 (Q) q w' ∧ Below w.heap.size w w' := by
  go_enter Tryz.func30, Tryz.ntmps30
  go_wp2_with (first
    | (go_at_call 74; refine c99.mono ?_; rintro e w1 ⟨q, g, k, cap, rfl, hk, hq, hb1, c84⟩; have hki : ((k : Int) == 0) = false := by simp; omega)
    | (go_at_call 37; refine c84.mono ?_; rintro e w2 ⟨r2, rfl, hb2, c21⟩; have hq2 := hq.next hb2; have hB2 := hb1.trans (hb2.mono hb1.size))
    | (go_at_call 18; refine c21.mono ?_; rintro e w3 ⟨rfl, rfl⟩)
    | (go_at_call 75; refine (c100 _ _ hq2).mono ?_; rintro e w4 ⟨rfl, rfl⟩)
    | (go_at_call 72; refine (c24 _ _ _ (hq2.next (below1 _ _)) (nv_uno rfl rfl (by decide))).mono ?_; rintro e w5 ⟨r5, rfl, hr5, hb5⟩))
  exact bodyPost_ret (v := .tuple #[q, .bool false]) (by simp only [results, Tryz.results30]; go_simp) rfl ⟨_, rfl, hq2.more (by decide), hB2⟩
set_option maxHeartbeats 1000000 in
theorem wh_4t  : Calls Tryz.prog 30 #[.int .i64 4, .bool true, va, vb] w fun e w' => ∃ q, e = .returned (.tuple #[q, .bool false]) ∧ NV 41002 (Q + 1) q w' ∧ Below w.heap.size w w' := by
  go_enter Tryz.func30, Tryz.ntmps30
  go_wp2_with (first
    | (go_at_call 74; refine c99.mono ?_; rintro e w1 ⟨q, g, k, cap, rfl, hk, hq, hb1, c84⟩; have hki : ((k : Int) == 0) = false := by simp; omega)
    | (go_at_call 37; refine c84.mono ?_; rintro e w2 ⟨r2, rfl, hb2, c21⟩; have hq2 := hq.next hb2; have hB2 := hb1.trans (hb2.mono hb1.size))
    | (go_at_call 18; refine c21.mono ?_; rintro e w3 ⟨rfl, rfl⟩)
    | (go_at_call 75; refine (c100 _ _ hq2).mono ?_; rintro e w4 ⟨rfl, rfl⟩)
    | (go_at_call 72; refine (c24 _ _ _ (hq2.next (below1 _ _)) (nv_uno rfl rfl (by decide))).mono ?_; rintro e w5 ⟨r5, rfl, hr5, hb5⟩))
  have hB3 := hB2.trans ((below1 w2 (.cells #[.int .u64 1] 22)).mono hB2.size)
  exact bodyPost_ret (v := .tuple #[r5, .bool false]) (by simp only [results, Tryz.results30]; go_simp) rfl ⟨_, rfl, hr5, hB3.trans (hb5.mono hB3.size)⟩
set_option maxHeartbeats 1000000 in
theorem wh_4f  : Calls Tryz.prog 30 #[.int .i64 4, .bool false, va, vb] w fun e w' => ∃ q, e = .returned (.tuple #[q, .bool false]) ∧ NV 41002 (Q) q w' ∧ Below w.heap.size w w' := by
  go_enter Tryz.func30, Tryz.ntmps30
  go_wp2_with (first
    | (go_at_call 74; refine c99.mono ?_; rintro e w1 ⟨q, g, k, cap, rfl, hk, hq, hb1, c84⟩; have hki : ((k : Int) == 0) = false := by simp; omega)
    | (go_at_call 37; refine c84.mono ?_; rintro e w2 ⟨r2, rfl, hb2, c21⟩; have hq2 := hq.next hb2; have hB2 := hb1.trans (hb2.mono hb1.size))
    | (go_at_call 18; refine c21.mono ?_; rintro e w3 ⟨rfl, rfl⟩)
    | (go_at_call 75; refine (c100 _ _ hq2).mono ?_; rintro e w4 ⟨rfl, rfl⟩)
    | (go_at_call 72; refine (c24 _ _ _ (hq2.next (below1 _ _)) (nv_uno rfl rfl (by decide))).mono ?_; rintro e w5 ⟨r5, rfl, hr5, hb5⟩))
  exact bodyPost_ret (v := .tuple #[q, .bool false]) (by simp only [results, Tryz.results30]; go_simp) rfl ⟨_, rfl, hq2.more (by decide), hB2⟩
end
set_option maxHeartbeats 400000 in
theorem wh_z (d : Int) (s : Bool) (va vb : Value) (Q : Nat) (w : World)
    (c99 : Calls Tryz.prog 74 #[va, vb] w fun e w1 => ∃ q g cap, e = .returned (.tuple #[q, .slice (some ⟨g, 0, none⟩) 0 cap]) ∧ NV 41000 Q q w1 ∧ Below w.heap.size w w1) :
    Calls Tryz.prog 30 #[.int .i64 d, .bool s, va, vb] w fun e w' => ∃ q, e = .returned (.tuple #[q, .bool true]) ∧ NV 41002 Q q w' ∧ Below w.heap.size w w' := by
  go_enter Tryz.func30, Tryz.ntmps30
  go_wp2_with (go_at_call 74; refine c99.mono ?_; rintro e w1 ⟨q, g, cap, rfl, hq, hb1⟩)
  exact bodyPost_ret (v := .tuple #[q, .bool true]) (by simp only [results, Tryz.results30]; go_simp) rfl ⟨_, rfl, hq.more (by decide), hb1⟩
/-- the whole number that a direction takes -/
theorem whole_nt {K A B : Nat} {va vb : Value} {w : World} (d : Int) (s : Bool) (hkn : knB d) (hK : K ≤ 20000) (h : NT K A va w) (h' : NT K B vb w) (hB : B ≠ 0) :
    Calls Tryz.prog 30 #[.int .i64 d, .bool s, va, vb] w fun e w' => ∃ q, e = .returned (.tuple #[q, .bool (decide (A % B = 0))]) ∧ NV 41002 (whC d s A B) q w' ∧ Below w.heap.size w w' := by
  have c99 := rover_nt hK h h' hB
  unfold whC
  by_cases hR : A % B = 0
  · rw [decide_eq_true hR, hR, show faB d s (decide (A / B % 2 = 1)) 0 B = false from if_pos rfl]
    rw [hR] at c99
    refine wh_z d s va vb _ w (c99.mono fun e w1 ⟨q, r, e1, e2, e3, e4⟩ => ?_)
    obtain ⟨g, k, cap, rfl, _, hz⟩ := e3.zero
    obtain rfl := hz.2 rfl
    exact ⟨q, g, cap, e1, e2, e4⟩
  · rw [decide_eq_false hR]
    have c99' : Calls Tryz.prog 74 #[va, vb] w fun e w1 => ∃ q g k cap, e = .returned (.tuple #[q, .slice (some ⟨g, 0, none⟩) k cap]) ∧ k ≠ 0 ∧ NV 41000 (A / B) q w1 ∧ Below w.heap.size w w1 ∧ Calls Tryz.prog 37 #[.slice (some ⟨g, 0, none⟩) k cap, .int .i64 1] w1 fun e w2 => ∃ r2, e = .returned r2 ∧ Below w1.heap.size w1 w2 ∧ Calls Tryz.prog 18 #[r2, vb] w2 fun e w3 => e = .returned (.int .i64 (sgn ((A % B + A % B : Nat) : Int) (B : Int))) ∧ w2 = w3 := by
      refine c99.mono fun e w1 ⟨q, r, e1, e2, e3, e4⟩ => ?_
      have c84 := rleft_nt 1 (by decide) (by decide) e3.nv
      obtain ⟨g, k, cap, rfl, _, hz⟩ := e3.zero
      refine ⟨q, g, k, cap, e1, fun hk => hR (hz.1 hk), e2, e4, c84.mono fun e w2 ⟨r2, f1, f2, f3⟩ => ⟨r2, f1, f3, ?_⟩⟩
      have := rcmp_nv (by decide) (by omega) f2.nv ((h'.next e4).next f3).nv
      rw [Nat.pow_one, Nat.mul_two] at this
      exact this
    have c100 := fun W q (hq : NV 41000 (A / B) q W) => q2_nv (by decide) hq
    have c24 := fun W q v (hq : NV 41000 (A / B) q W) (h1 : NV 1 1 v W) => radd_nv (by decide) (by decide) hq h1
    have hd : d = 0 ∨ d = 1 ∨ d = 2 ∨ d = 3 ∨ d = 4 := by unfold knB at hkn; omega
    have sw := sgn_ways ((A % B + A % B : Nat) : Int) (B : Int)
    unfold faB
    rw [if_neg hR]
    rcases hd with rfl | rfl | rfl | rfl | rfl
    · rw [if_pos rfl]
      rcases sw with ⟨a, e⟩ | ⟨a, e⟩ | ⟨a, e⟩
      · rw [decide_eq_false (show ¬ B < A % B + A % B by omega), decide_eq_false (show ¬ A % B + A % B = B by omega)]
        exact wh_0l _ s _ va vb _ w c99' c100 c24 (by omega) (by rw [e]; rfl)
      · rw [decide_eq_false (show ¬ B < A % B + A % B by omega), decide_eq_true (show A % B + A % B = B by omega)]
        cases ho : decide (A / B % 2 = 1)
        · exact wh_0en _ s _ va vb _ w c99' c100 c24 e ho
        · exact wh_0eo _ s _ va vb _ w c99' c100 c24 e ho
      · rw [decide_eq_true (show B < A % B + A % B by omega)]
        exact wh_0g _ s _ va vb _ w c99' c100 c24 (by omega)
    · rw [if_neg (show ¬ (1 : Int) = 0 by decide), if_pos (show (1 : Int) = 1 from rfl)]
      rcases sw with ⟨a, e⟩ | ⟨a, e⟩ | ⟨a, e⟩
      · rw [decide_eq_false (show ¬ B ≤ A % B + A % B by omega)]
        exact wh_1l _ s _ va vb _ w c99' c100 c24 (by omega)
      · rw [decide_eq_true (show B ≤ A % B + A % B by omega)]
        exact wh_1g _ s _ va vb _ w c99' c100 c24 (by omega)
      · rw [decide_eq_true (show B ≤ A % B + A % B by omega)]
        exact wh_1g _ s _ va vb _ w c99' c100 c24 (by omega)
    · exact wh_2 _ s _ va vb _ w c99' c100 c24
    · cases s
      · exact wh_3f _ _ va vb _ w c99' c100 c24
      · exact wh_3t _ _ va vb _ w c99' c100 c24
    · cases s
      · exact wh_4f _ _ va vb _ w c99' c100 c24
      · exact wh_4t _ _ va vb _ w c99' c100 c24
end Go.Proofs.YtogfiipmebgnjaaGreatDoor

namespace Go.Proofs.YtogfiipmebgnjaaGreatDoor
open Go.RowKit

set_option maxHeartbeats 400000 in
theorem rbinary_any (n : Int) (w : World) : Calls Tryz.prog 39 #[.int .i64 n] w fun e w' => e = .returned (.bool (decide (binN n))) ∧ w' = w := by
  by_cases h1 : 1 ≤ n
  · by_cases h2 : n ≤ 6
    · rw [decide_eq_true (show binN n from ⟨h1, h2⟩)]
      go_enter Tryz.func39, Tryz.ntmps39
      go_wp2
      go_ret
      exact ⟨rfl, rfl⟩
    · rw [decide_eq_false (show ¬ binN n from fun h => h2 h.2)]
      go_enter Tryz.func39, Tryz.ntmps39
      go_wp2
      go_ret
      exact ⟨rfl, rfl⟩
  · rw [decide_eq_false (show ¬ binN n from fun h => h1 h.1)]
    go_enter Tryz.func39, Tryz.ntmps39
    go_wp2
    go_ret
    exact ⟨rfl, rfl⟩
theorem rfits4 (n : Int) (B : Nat) (hB : B < 2 ^ 256) (w : World) :
    Calls Tryz.prog 114 #[.int .i64 n, A4 B] w fun x w' => x = .returned (.bool (decide (okN n ∧ B < 2 ^ (widthN n).toNat))) ∧ Below w.heap.size w w' := by
  refine (rfits_any n (W4 B) (W4_words B) _ (A4_get B) rfl w).mono ?_
  rintro x w' ⟨rfl, hb⟩
  refine ⟨?_, hb⟩
  have hwd := (fields_bounds n).2.1
  have e : (fitsP n (W4 B)) ↔ (okN n ∧ B < 2 ^ (widthN n).toNat) := by
    unfold fitsP
    rw [lenL_low]
    have := len4_le (k := (widthN n).toNat) hB
    rw [show (((widthN n).toNat : Nat) : Int) = widthN n by omega] at this
    rw [this]
  rw [decide_eq_decide.2 e]
set_option maxHeartbeats 400000 in
theorem rgood_any (n : Int) (B : Nat) (hB : B < 2 ^ 256) (w : World) :
    Calls Tryz.prog 67 #[.int .i64 n, A4 B] w fun x w' => x = .returned (.bool (decide (goodN n B))) ∧ Below w.heap.size w w' := by
  have c35 := fun w => rbinary_any n w
  have c50 := fun w => rfits4 n B hB w
  by_cases hb : binN n
  · have hF := bin_fields hb
    rw [decide_eq_true hb] at c35
    have e : (okN n ∧ B < 2 ^ (widthN n).toNat) ↔ goodN n B := by
      rw [hF.2.2.2.2.1, Int.toNat_natCast]
      exact ⟨fun h => ⟨hb, h.2⟩, fun h => ⟨hF.1, h.2⟩⟩
    rw [decide_eq_decide.2 e] at c50
    generalize decide (goodN n B) = D at *
    clear hF e hb hB
    go_enter Tryz.func67, Tryz.ntmps67
    go_wp2_with (first
      | (go_at_call 39; refine (c35 _).mono ?_; rintro e w1 ⟨rfl, rfl⟩)
      | (go_at_call 114; refine (c50 _).mono ?_; rintro e w2 ⟨rfl, hb2⟩))
    go_ret
    exact ⟨rfl, bnext bgo hb2⟩
  · rw [decide_eq_false hb] at c35
    rw [decide_eq_false (show ¬ goodN n B from fun h => hb h.1)]
    clear hb hB c50
    go_enter Tryz.func67, Tryz.ntmps67
    go_wp2_with (go_at_call 39; refine (c35 _).mono ?_; rintro e w1 ⟨rfl, rfl⟩)
    go_ret
    exact ⟨rfl, bgo⟩
end Go.Proofs.YtogfiipmebgnjaaGreatDoor

namespace Go.Proofs.YtogfiipmebgnjaaGreatDoor
open Go.RowKit

section
variable {P : Program} {ops : Array Oper} {Q : Exit → Act → World → Prop} {md : Region.Mode}

/-- how many of the first n are still to come -/
def toCome (listed : Array Bool) : Nat → Nat
  | 0 => 0
  | n + 1 => toCome listed n + (if listed.getD n true then 0 else 1)
theorem toCome_out {listed : Array Bool} {i : Nat} : ∀ n, n ≤ i → toCome (listed.setIfInBounds i true) n = toCome listed n
  | 0, _ => rfl
  | n + 1, h => by unfold toCome; rw [toCome_out n (by omega), getD_set_ne true (by omega)]
theorem toCome_set {listed : Array Bool} {i : Nat} (hu : listed.getD i true = false) : ∀ n, i < n → toCome (listed.setIfInBounds i true) n + 1 = toCome listed n
  | 0, h => by omega
  | n + 1, h => by
    unfold toCome
    by_cases e : i = n
    · subst e
      have hlt : i < listed.size := by
        rcases Nat.lt_or_ge i listed.size with h' | h'
        · exact h'
        · simp [Array.getElem?_eq_none h'] at hu
      rw [toCome_out i (Nat.le_refl _), hu]
      simp [hlt]
    · rw [getD_set_ne true e]
      have := toCome_set hu n (by omega)
      omega
theorem toCome_zero {listed : Array Bool} : ∀ n, toCome listed n = 0 → ∀ i, i < n → listed.getD i true = true
  | 0, _, i, h => by omega
  | n + 1, h, i, hi => by
    unfold toCome at h
    by_cases e : i = n
    · subst e
      by_cases hl : listed.getD i true = true
      · exact hl
      · rw [if_neg hl] at h; omega
    · exact toCome_zero n (by omega) i (by omega)
theorem toCome_least {listed : Array Bool} : ∀ n, 0 < toCome listed n → ∃ i, i < n ∧ listed.getD i true = false ∧ ∀ j, j < i → listed.getD j true = true
  | 0, h => by simp [toCome] at h
  | n + 1, h => by
    by_cases h0 : 0 < toCome listed n
    · obtain ⟨i, h1, h2, h3⟩ := toCome_least n h0
      exact ⟨i, by omega, h2, h3⟩
    · unfold toCome at h
      have hz := toCome_zero (listed := listed) n (by omega)
      refine ⟨n, by omega, ?_, fun j hj => hz j hj⟩
      cases hl : listed.getD n true with
      | false => rfl
      | true => rw [hl, if_pos rfl] at h; omega

/-- of the first n each waits for earlier ones alone -/
def backB (md : Region.Mode) (ops : Array Oper) (n : Nat) : Bool :=
  (List.range n).all fun i => match ops[i]? with
    | some o => o.after.all fun e => !Region.binds md e || decide (e.on < i)
    | none => false
theorem backB_spec {n : Nat} (h : backB md ops n = true) (i : Nat) (hi : i < n) : ∃ o, ops[i]? = some o ∧ ∀ e ∈ o.after, Region.binds md e = true → e.on < i := by
  have h1 := List.all_eq_true.1 h i (List.mem_range.2 hi)
  cases ho : ops[i]? with
  | none => simp only [ho] at h1; cases h1
  | some o =>
    simp only [ho] at h1
    refine ⟨o, rfl, fun e he hb => ?_⟩
    have h2 := Array.all_eq_true_iff_forall_mem.1 h1 e he
    simpa [hb] using h2

theorem getD_true_in {listed : Array Bool} {i : Nat} (hi : i < listed.size) (h : listed.getD i true = true) : listed.getD i false = true := by
  simp [hi] at h ⊢; exact h

/-- what stands when the first n are done -/
def headDone (n m : Nat) : Array Bool := (List.replicate n true ++ List.replicate (m - n) false).toArray

theorem headDone_eq {n : Nat} {listed : Array Bool} (hn : n ≤ ops.size) (inv : HeadInv md ops n listed) (h : ∀ i, i < n → listed.getD i true = true) : listed = headDone n ops.size := by
  apply Array.ext
  · simp [headDone, inv.size]; omega
  · intro i h1 h2
    by_cases hi : i < n
    · have := h i hi
      simp [h1] at this
      rw [this]
      simp [headDone, List.getElem_append, hi]
    · have := inv.tail i (by omega) (by rw [← inv.size]; exact h1)
      simp [h1] at this
      rw [this]
      simp [headDone, List.getElem_append, hi]

theorem toCome_replicate (m : Nat) : ∀ n, n ≤ m → toCome (Array.replicate m false) n = n
  | 0, _ => rfl
  | n + 1, h => by unfold toCome; rw [toCome_replicate m n (by omega)]; simp [show n < m by omega]

/-- all the checks of a region in one -/
def invB (md : Region.Mode) (ops : Array Oper) (n : Nat) : Bool :=
  Region.sinkB md ops n && Region.chainB md ops n && decide (n < ops.size) && backB md ops n && Region.seqB md ops (ops.size - n) n (headDone n ops.size)

/-- what slot t of a frame holds -/
abbrev slot (a : Act) (t : Nat) : Value := a.tmps[t]?.getD undef
theorem slot_put_ne {a : Act} {d t : Nat} {v : Value} (h : d ≠ t) : slot (a.put (some d) v) t = slot a t := by
  simp [slot, Act.put, Array.getElem?_setIfInBounds_ne h]
theorem slot_put {a : Act} {d : Nat} {v : Value} (h : d < a.tmps.size) : slot (a.put (some d) v) d = v := by
  simp [slot, Act.put, h]

/-- what is said of a value stays, whatever memory is made -/
def Stays (p : Value → World → Prop) : Prop := ∀ v w w', p v w → Below w.heap.size w w' → p v w'

/-- each of the first n writes a slot of its own -/
def dstG (l : List Oper) (D : List Nat) (n m : Nat) : Bool :=
  (List.range n).all fun i => (match l[i]? with
    | some o => o.dst == some (D.getD i 0)
    | none => false) && decide (D.getD i 0 < m) && (List.range n).all fun j => j == i || D.getD j 0 != D.getD i 0
theorem dstG_spec {l : List Oper} {D : List Nat} {n m : Nat} (h : dstG l D n m = true) (i : Nat) (hi : i < n) :
    ∃ o, l[i]? = some o ∧ o.dst = some (D.getD i 0) ∧ D.getD i 0 < m ∧ ∀ j, j < n → j ≠ i → D.getD j 0 ≠ D.getD i 0 := by
  have h1 := List.all_eq_true.1 h i (List.mem_range.2 hi)
  cases ho : l[i]? with
  | none => simp [ho] at h1
  | some o =>
    simp only [ho, Bool.and_eq_true, decide_eq_true_eq, beq_iff_eq, List.all_eq_true, Bool.or_eq_true, bne_iff_ne, List.mem_range] at h1
    exact ⟨o, rfl, h1.1.1, h1.1.2, fun j hj hne => (h1.2 j hj).resolve_left hne⟩
/-- what an operation's guard looks at is done ahead of it -/
def gdB (l : List Oper) (n : Nat) : Bool :=
  (List.range n).all fun i => match l[i]? with
    | some o => match o.guard with
      | none => true
      | some (j, _) => decide (j < n) && o.after.any fun e => Region.binds .any e && e.on == j
    | none => false
theorem gdB_spec {l : List Oper} {n : Nat} (h : gdB l n = true) (i : Nat) (hi : i < n) (o : Oper) (ho : l[i]? = some o) (j : Nat) (b : Bool) (hg : o.guard = some (j, b)) :
    j < n ∧ ∃ e ∈ o.after, Region.binds .any e = true ∧ e.on = j := by
  have h1 := List.all_eq_true.1 h i (List.mem_range.2 hi)
  simp only [ho, hg, Bool.and_eq_true, decide_eq_true_eq, Array.any_eq_true', beq_iff_eq] at h1
  obtain ⟨h1, e, he, h2, h3⟩ := h1
  exact ⟨h1, e, he, h2, h3⟩

end
end Go.Proofs.YtogfiipmebgnjaaGreatDoor

namespace Go.Proofs.YtogfiipmebgnjaaGreatDoor
open Go.RowKit

section
variable {P : Program} {ops : Array Oper} {Q : Exit → Act → World → Prop} {md : Region.Mode}
theorem wpAny_inv0 {B : Act → World → Prop} {R : Nat → Act → World → Prop} (hb : backB md ops ops.size = true)
    (hstep : ∀ i o a w, ops[i]? = some o → B a w → (∀ e ∈ o.after, Region.binds md e = true → R e.on a w) → wpOp P ops Q i (fun a' w' => B a' w' ∧ R i a' w' ∧ ∀ j, j < ops.size → j ≠ i → R j a w → R j a' w') a w)
    (hend : ∀ a w, B a w → (∀ i, i < ops.size → R i a w) → Q .normal a w) :
    ∀ (f : Nat) (listed : Array Bool) (a : Act) (w : World), listed.size = ops.size → toCome listed ops.size = f → B a w → (∀ i, i < ops.size → listed.getD i false = true → R i a w) → wpAny P md ops Q f listed a w
  | 0, listed, a, w, hsz, hf, hB, hR => by
    have hz := toCome_zero ops.size hf
    refine ⟨?_, hend a w hB fun i hi => hR i hi (getD_true_in (by rw [hsz]; exact hi) (hz i hi))⟩
    refine List.eq_nil_iff_forall_not_mem.2 fun j hj => ?_
    obtain ⟨hu, o, ho, _⟩ := mem_ready.1 hj
    have hlt : j < ops.size := (Array.getElem?_eq_some_iff.1 ho).1
    rw [hz j hlt] at hu; cases hu
  | f + 1, listed, a, w, hsz, hf, hB, hR => by
    obtain ⟨k, hk, hku, hkl⟩ := toCome_least (listed := listed) ops.size (by omega)
    refine ⟨fun h0 => ?_, fun i hi => ?_⟩
    · obtain ⟨o, ho, hlt⟩ := backB_spec hb k hk
      have : k ∈ Region.ready md ops listed := mem_ready.2 ⟨hku, o, ho, fun e he hbd => by
        have := hlt e he hbd
        exact getD_true_in (by rw [hsz]; omega) (hkl _ this)⟩
      rw [h0] at this; cases this
    · obtain ⟨hu, o, ho, hall⟩ := mem_ready.1 hi
      have hin : i < ops.size := (Array.getElem?_eq_some_iff.1 ho).1
      obtain ⟨o', ho', hlt⟩ := backB_spec hb i hin
      obtain rfl : o' = o := Option.some.inj (ho'.symm.trans ho)
      refine wpOp_mono (fun a' w' h3 => ?_) (hstep i o' a w ho hB fun e he hbd => hR _ (by have := hlt e he hbd; omega) (hall e he hbd))
      refine wpAny_inv0 hb hstep hend f _ a' w' (by simp [hsz]) (by have := toCome_set hu ops.size hin; omega) h3.1 fun j hj hl => ?_
      by_cases e : j = i
      · subst e; exact h3.2.1
      · rw [getD_set_ne false (fun h => e h.symm)] at hl
        exact h3.2.2 j hj e (hR j hj hl)

/-- wp_region_gvals, of a region all of whose operations leave a value -/
theorem wp_region_gall (m : Nat) (D : List Nat) (S : List (Value → World → Prop)) (C : World → Prop) {id : Nat} {l : List Oper} {a0 : Act} {w0 : World} (hm : P.follows .mixedOrders = true) (hI : backB .any l.toArray l.length = true) (hD : dstG l D l.length m = true) (hGd : gdB l l.length = true)
    (hsz : a0.tmps.size = m) (hS : ∀ p ∈ S, Stays p) (hC0 : C w0.drew) (hCn : ∀ w w', C w → Below w.heap.size w w' → C w')
    (hGv : ∀ i o j b, i < l.length → l[i]? = some o → o.guard = some (j, b) → ∀ v w, (S.getD j fun _ _ => True) v w → v = .bool b)
    (hstep : ∀ i o a w, i < l.length → l[i]? = some o → C w → (∀ t, (∀ i, i < l.length → D.getD i 0 ≠ t) → slot a t = slot a0 t) → (∀ e ∈ o.after, Region.binds .any e = true → (S.getD e.on fun _ _ => True) (slot a (D.getD e.on 0)) w) →
      o.wp P a w (fun a' w' => ∃ v, a' = a.put o.dst v ∧ (S.getD i fun _ _ => True) v w' ∧ Below w.heap.size w w') Q)
    (hend : ∀ a w, C w → a.tmps.size = m → a.defers = a0.defers → (∀ t, (∀ i, i < l.length → D.getD i 0 ≠ t) → slot a t = slot a0 t) → (∀ i, i < l.length → (S.getD i fun _ _ => True) (slot a (D.getD i 0)) w) → Q .normal a w) :
    (Code.region id l.toArray true).wp P Q a0 w0 := by
  have hSt : ∀ i, Stays (S.getD i fun _ _ => True) := by
    intro i
    rcases Nat.lt_or_ge i S.length with h | h
    · rw [List.getD_eq_getElem?_getD, List.getElem?_eq_getElem h]; exact hS _ (List.getElem_mem h)
    · rw [List.getD_eq_getElem?_getD, List.getElem?_eq_none h]; exact fun _ _ _ _ _ => trivial
  have hsl : l.toArray.size = l.length := by simp
  refine wp_region_any hm ?_
  have H := wpAny_inv0 (P := P) (Q := Q) (md := .any) (ops := l.toArray) (B := fun a w => C w ∧ a.tmps.size = m ∧ a.defers = a0.defers ∧ ∀ t, (∀ i, i < l.length → D.getD i 0 ≠ t) → slot a t = slot a0 t)
    (R := fun i a w => (S.getD i fun _ _ => True) (slot a (D.getD i 0)) w) (by rw [hsl]; exact hI) ?_ (fun a w h hR => hend a w h.1 h.2.1 h.2.2.1 h.2.2.2 (fun i hi => hR i (by rw [hsl]; exact hi))) l.toArray.size (Array.replicate l.toArray.size false) a0 w0.drew (by simp) (toCome_replicate _ _ (Nat.le_refl _)) ⟨hC0, hsz, rfl, fun _ _ => rfl⟩ (fun i hi hl => by rw [getD_replicate_false] at hl; cases hl)
  · exact H
  intro i o a w ho0 hB hR
  have ho : l[i]? = some o := by simpa using ho0
  have hi : i < l.length := (List.getElem?_eq_some_iff.1 ho).1
  obtain ⟨o', ho2, hd, hlt, hne⟩ := dstG_spec hD i hi
  have eo : o' = o := Option.some.inj (ho2.symm.trans ho)
  subst eo
  have hw := hstep i o' a w hi ho hB.1 hB.2.2.2 hR
  unfold wpOp
  simp only [ho0]
  have hwant : Region.wanted o' (yielded l.toArray a.tmps) = true := by
    unfold Region.wanted
    cases hg : o'.guard with
    | none => rfl
    | some q =>
      obtain ⟨j, b⟩ := q
      obtain ⟨hj, e, he, hbd, hej⟩ := gdB_spec hGd i hi o' ho j b hg
      have hv := hR e he hbd
      rw [hej] at hv
      have hv2 := hGv i o' j b hi ho hg _ _ hv
      obtain ⟨oj, hoj, hdj, hltj, _⟩ := dstG_spec hD j hj
      have hoj' : l.toArray[j]? = some oj := by simpa using hoj
      have hs : D.getD j 0 < a.tmps.size := by rw [hB.2.1]; exact hltj
      have ht : a.tmps[D.getD j 0]? = some (.bool b) := by
        have h5 : a.tmps[D.getD j 0]? = some a.tmps[D.getD j 0] := Array.getElem?_eq_getElem hs
        have h6 : slot a (D.getD j 0) = a.tmps[D.getD j 0] := by unfold slot; rw [h5]; rfl
        rw [h5, ← h6, hv2]
      have hy : yielded l.toArray a.tmps j = some b := by
        unfold yielded
        simp only [hoj', Option.bind_some, hdj, ht]
      simp [hy]
  rw [if_pos hwant]
  refine Or.inl (Oper.wp_mono ?_ hw)
  rintro a' w' ⟨v, rfl, hv, hb⟩
  rw [hd]
  refine ⟨⟨hCn _ _ hB.1 hb, by simp [Act.put, hB.2.1], hB.2.2.1, fun t ht => ?_⟩, ?_, fun j hj hji hRj => ?_⟩
  · rw [slot_put_ne (ht i hi)]; exact hB.2.2.2 t ht
  · show (S.getD i fun _ _ => True) (slot (a.put (some (D.getD i 0)) v) (D.getD i 0)) w'
    rw [slot_put (by rw [hB.2.1]; exact hlt)]; exact hv
  · show (S.getD j fun _ _ => True) (slot (a.put (some (D.getD i 0)) v) (D.getD j 0)) w'
    rw [slot_put_ne (fun h => hne j (by rw [← hsl]; exact hj) hji h.symm)]
    exact hSt j _ _ _ hRj hb
/-- this value -/
def isV (u : Value) : Value → World → Prop := fun v _ => v = u
theorem isV.stays (u : Value) : Stays (isV u) := fun v w w' h _ => h
end
end Go.Proofs.YtogfiipmebgnjaaGreatDoor
