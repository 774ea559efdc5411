/-
  Texts that the proof leans on, joined: Wa, Vb, Vc, Vp, Wb, Npo, Str, Apn, Nrd.
-/
import Derived.Test.YtmommdhnogogdaaGreatDoorJ9
import Derived.Test.YtmommdhnogogdaaGreatDoorJ18
import Derived.Test.YtmommdhnogogdaaGreatDoorJ17
import Derived.Test.YtmommdhnogogdaaGreatDoorJ16
import Derived.Test.YtmommdhnogogdaaGreatDoorJ14
import Derived.Test.YtmommdhnogogdaaGreatDoorJ13
import Derived.Test.YtmommdhnogogdaaGreatDoorJ1
import Derived.Deep.Cut
import Derived.Deep.CutRange
import Derived.Test.YtmommdhnogogdaaGreatDoorJ12
import Derived.Lib.RabinKarpLaws
import Derived.Test.YtmommdhnogogdaaGreatDoorJ5
set_option linter.unusedVariables false
set_option linter.unusedSectionVars false
set_option linter.unusedSimpArgs false
set_option maxRecDepth 20000
namespace Go.Proofs.YtmommdhnogogdaaGreatDoor
open Go.RowKit


theorem NT.more {K K' V : Nat} {v : Value} {w : World} (h : NT K V v w) (hk : K ≤ K') : NT K' V v w := by
  obtain ⟨g, k, cap, z, h1, h2, h3, h4, h5⟩ := h
  exact ⟨g, k, cap, z, h1, by omega, h3, h4, h5⟩
theorem rtimes_nt {K K' A B : Nat} {v v' : Value} {w : World} (hK : K < 1000000) (hK' : K' < 1000000) (h : NV K A v w) (h' : NV K' B v' w) :
    Calls Tryz.prog 15 #[v, v'] w fun e w' => ∃ r, e = .returned r ∧ NT (K + K' + 1) (A * B) r w' ∧ Below w.heap.size w w' := by
  obtain ⟨g, k, c, z, rfl, hk, hN, hz⟩ := h
  obtain ⟨g2, k2, c2, z2, rfl, hk2, hN2, hz2⟩ := h'
  refine (times_tr g 0 k c g2 0 k2 c2 z z2 w (by omega) (by omega) hN hN2).mono fun e w' ⟨g3, k3, cap3, z3, e1, hk3, hN3, hv3, hB, ht⟩ => ⟨_, e1, ⟨g3, k3, cap3, z3, rfl, by omega, hN3, ?_, ht⟩, hB⟩
  rw [← val_more hN3.2.2.2.1 _ hk3, hv3, hz, hz2]; simp
theorem rleft_nt {K A : Nat} {v : Value} {w : World} (s : Nat) (hK : K < 1000000) (hs : s ≤ 6300000) (h : NV K A v w) :
    Calls Tryz.prog 43 #[v, .int .i64 s] w fun e w' => ∃ r, e = .returned r ∧ NT (K + s / 64 + 1) (A * 2 ^ s) r w' ∧ Below w.heap.size w w' := by
  obtain ⟨g, k, c, z, rfl, hk, hN, hz⟩ := h
  refine (fleft_val g 0 k c s z w (by omega) (by omega) (by omega) hN).mono fun e w' ⟨g3, k3, cap3, z3, e1, hk3, hN3, hv3, hB, hf, ht⟩ => ⟨_, e1, ⟨g3, k3, cap3, z3, rfl, by rw [Int.toNat_natCast] at hk3; omega, hN3, ?_, ht⟩, hB⟩
  rw [hv3, hz, Int.toNat_natCast]; simp
theorem rcmp_nv {K K' A B : Nat} {v v' : Value} {w : World} (hK : K < 1000000) (hK' : K' < 1000000) (h : NV K A v w) (h' : NV K' B v' w) :
    Calls Tryz.prog 37 #[v, v'] w fun e w' => e = .returned (.int .i64 (sgn (A : Int) B)) ∧ w = w' := by
  obtain ⟨g, k, c, z, rfl, hk, hN, hz⟩ := h
  obtain ⟨g2, k2, c2, z2, rfl, hk2, hN2, hz2⟩ := h'
  have := rcmp_any _ _ k c k2 c2 z z2 w (by omega) (by omega) hN hN2
  rw [hz, hz2] at this
  exact this
theorem rlen_nv {K V : Nat} {v : Value} {w : World} (hK : K < 1000000) (h : NV K V v w) :
    Calls Tryz.prog 42 #[v] w fun e w' => e = .returned (.int .i64 (bl V : Int)) ∧ w = w' := by
  obtain ⟨g, k, c, z, rfl, hk, hN, hz⟩ := h
  have := rlen_num _ k c z w (by omega) hN
  rw [len_bl hN.2.2.1 hz] at this
  exact this
theorem rtrim_nt {K V : Nat} {v : Value} {w : World} (hK : K < 1000000) (h : Nt K V v w) :
    Calls Tryz.prog 36 #[v] w fun e w' => ∃ r, e = .returned r ∧ NT K V r w' ∧ Below w.heap.size w w' := by
  obtain ⟨a, k, c, z, rfl, hk, hN, hz⟩ := h
  refine (trim_any a k c z w (by omega) hN).mono fun e w' ⟨g, cap, e1, hN', hB⟩ => ⟨_, e1, ⟨g, _, cap, z, rfl, Nat.le_trans (sizeL_le z k) hk, hN', ?_, sizeL_sizeL _ _⟩, hB⟩
  rw [val_bare, hz]
theorem rsize_nt {K V : Nat} {v : Value} {w : World} (hK : K < 1000000) (h : Nt K V v w) :
    ∃ m : Nat, (m ≤ K ∧ (m = 0 ↔ V = 0) ∧ ∀ j, m ≤ j ↔ bl V ≤ 64 * j) ∧ ∀ w', Below w.heap.size w w' → Calls Tryz.prog 40 #[v] w' fun e w'' => e = .returned (.int .i64 (m : Int)) ∧ w' = w'' := by
  obtain ⟨a, k, c, z, rfl, hk, hN, hz⟩ := h
  exact ⟨sizeL z k, ⟨Nat.le_trans (sizeL_le z k) hk, size_zero hN.2.2.1 hz, fun j => size_bl hN.2.2.1 hz⟩, fun w' hb => size_num a k c z w' (by omega) (hN.next hb)⟩
end Go.Proofs.YtmommdhnogogdaaGreatDoor

namespace Go.Proofs.YtmommdhnogogdaaGreatDoor
open Go.RowKit
def decN (n : Int) : Prop := 7 ≤ n ∧ n ≤ 12
instance (n : Int) : Decidable (decN n) := inferInstanceAs (Decidable (_ ∧ _))
/-- a decimal format's numbers -/
def fD (n : Int) : DF := if n = 7 ∨ n = 10 then ⟨20, 6, 2, -101, denseN n⟩ else if n = 8 ∨ n = 11 then ⟨50, 8, 5, -398, denseN n⟩ else ⟨110, 12, 11, -6176, denseN n⟩
theorem dec_cases {n : Int} (h : decN n) : n = 7 ∨ n = 8 ∨ n = 9 ∨ n = 10 ∨ n = 11 ∨ n = 12 := by unfold decN at h; omega
theorem fD_ok (n : Int) : (fD n).ok := by
  unfold fD
  split
  · exact Or.inl ⟨rfl, rfl, rfl, rfl⟩
  · split
    · exact Or.inr (Or.inl ⟨rfl, rfl, rfl, rfl⟩)
    · exact Or.inr (Or.inr ⟨rfl, rfl, rfl, rfl⟩)
theorem dec_fields {n : Int} (h : decN n) : okN n ∧ numN n = n ∧ baseN n = 10 ∧ widthN n = (((fD n).t + ((fD n).w + 6) : Nat) : Int) ∧ precN n = 3 * ((fD n).j : Int) + 1 ∧ leastN n = (fD n).l ∧ mostN n = (fD n).l + 3 * 2 ^ (fD n).w - 1 ∧ payN n = 3 * ((fD n).j : Int) ∧ denseN n = (fD n).dn := by
  rcases dec_cases h with rfl | rfl | rfl | rfl | rfl | rfl <;> decide
/-- a pattern is a decimal format's -/
def goodD (n : Int) (B : Nat) : Prop := decN n ∧ B < 2 ^ ((fD n).t + ((fD n).w + 6))
instance (n : Int) (B : Nat) : Decidable (goodD n B) := inferInstanceAs (Decidable (_ ∧ _))
set_option maxHeartbeats 400000 in
theorem rdecimal_any (n : Int) (w : World) : Calls Tryz.prog 48 #[.int .i64 n] w fun e w' => e = .returned (.bool (decide (decN n))) ∧ w = w' := by
  by_cases h1 : 7 ≤ n
  · by_cases h2 : n ≤ 12
    · rw [decide_eq_true (show decN n from ⟨h1, h2⟩)]
      go_enter Tryz.func48, Tryz.ntmps48
      go_wp2
      go_ret
      exact ⟨rfl, rfl⟩
    · rw [decide_eq_false (show ¬ decN n from fun h => h2 h.2)]
      go_enter Tryz.func48, Tryz.ntmps48
      go_wp2
      go_ret
      exact ⟨rfl, rfl⟩
  · rw [decide_eq_false (show ¬ decN n from fun h => h1 h.1)]
    go_enter Tryz.func48, Tryz.ntmps48
    go_wp2
    go_ret
    exact ⟨rfl, rfl⟩
set_option maxHeartbeats 400000 in
theorem rgood14 (n : Int) (B : Nat) (hB : B < 2 ^ 256) (w : World) :
    Calls Tryz.prog 20 #[.int .i64 n, A4 B] w fun x w' => x = .returned (.bool (decide (goodD n B))) ∧ Below w.heap.size w w' := by
  have c35 := fun w => rdecimal_any n w
  have c50 := fun w => rfits4 n B hB w
  by_cases hb : decN n
  · have hF := dec_fields hb
    rw [decide_eq_true hb] at c35
    have e : (okN n ∧ B < 2 ^ (widthN n).toNat) ↔ goodD n B := by
      rw [hF.2.2.2.1, Int.toNat_natCast]
      exact ⟨fun h => ⟨hb, h.2⟩, fun h => ⟨hF.1, h.2⟩⟩
    rw [decide_eq_decide.2 e] at c50
    generalize decide (goodD n B) = D at *
    clear hF e hb hB
    go_enter Tryz.func20, Tryz.ntmps20
    go_wp2_with (first
      | (go_at_call 48; refine (c35 _).mono ?_; rintro e w1 ⟨rfl, rfl⟩)
      | (go_at_call 50; refine (c50 _).mono ?_; rintro e w2 ⟨rfl, hb2⟩))
    go_ret
    exact ⟨rfl, bnext bgo hb2⟩
  · rw [decide_eq_false hb] at c35
    rw [decide_eq_false (show ¬ goodD n B from fun h => hb h.1)]
    clear hb hB c50
    go_enter Tryz.func20, Tryz.ntmps20
    go_wp2_with (go_at_call 48; refine (c35 _).mono ?_; rintro e w1 ⟨rfl, rfl⟩)
    go_ret
    exact ⟨rfl, bgo⟩
attribute [local irreducible] W4 NT NV
theorem rpowt_nv (n : Nat) (w : World) (hn : n ≤ 12000) : Calls Tryz.prog 56 #[.int .u64 10, .int .i64 (n : Int)] w fun r w' => ∃ v, r = .returned v ∧ NV 50000 (10 ^ n) v w' ∧ Below w.heap.size w w' := by
  refine (rpow_any 10 n w (by decide) (by omega)).mono ?_
  rintro r w' ⟨g, k, cap, z, rfl, hk, hN, hv, hb⟩
  refine ⟨_, rfl, ?_, hb⟩
  unfold NV
  exact ⟨g, k, cap, z, rfl, by omega, hN, by rw [hv]; simp⟩
set_option maxHeartbeats 400000 in
theorem rpow4t (p : Nat) (w : World) (hp : p ≤ 12000) : Calls Tryz.prog 46 #[.int .i64 10, .int .i64 p] w fun r w' => ∃ v, r = .returned v ∧ NV 50000 (10 ^ p) v w' ∧ Below w.heap.size w w' := by
  have c := fun W => rpowt_nv p W hp
  go_enter Tryz.func46, Tryz.ntmps46
  go_wp2_with (go_at_call 56; refine (c _).mono ?_; rintro r w1 ⟨v, rfl, hv, hb1⟩)
  go_ret
  exact ⟨v, rfl, hv, hb1⟩
theorem sgnt_lt (A B : Nat) : decide (sgn (A : Int) (B : Int) < 0) = decide (A < B) := by
  rcases sgn_ways (A : Int) (B : Int) with ⟨a, e⟩ | ⟨a, e⟩ | ⟨a, e⟩
  · rw [e, decide_eq_true (show A < B by omega)]; rfl
  · rw [e, decide_eq_false (show ¬ A < B by omega)]; rfl
  · rw [e, decide_eq_false (show ¬ A < B by omega)]; rfl
set_option maxHeartbeats 1000000 in
theorem rbelowt (k p : Nat) (w : World) (hk : k < 2 ^ 256) (hp : p ≤ 12000) : Calls Tryz.prog 17 #[A4 k, .int .i64 10, .int .i64 p] w fun r w' => r = .returned (.bool (decide (k < 10 ^ p))) ∧ Below w.heap.size w w' := by
  have c1 := fun W => rpow4t p W hp
  have hs := sgnt_lt k (10 ^ p)
  go_enter Tryz.func17, Tryz.ntmps17
  go_wp2
  go_region_with (first
    | (go_at_call 46; refine (c1 _).mono ?_; rintro e w1 ⟨v1, rfl, hl, hb1⟩; have hbx := box_nv (w0 := w) (B := k) (t := 24) hk (bnext bgo hb1))
    | (go_at_call 37; refine (rcmp_nv (by decide) (by decide) hbx hl).mono ?_; rintro e w2 ⟨rfl, rfl⟩))
  go_wp2
  go_ret
  exact ⟨congrArg (fun b => Ending.returned (.bool b)) hs, bnext bgo hb1⟩
/-- what Of tells of a decimal format -/
abbrev IDec (n : Int) (nm : ByteArray) (wd pr ex le mo pa : Int) (dn : Bool) : Value := .agg #[.int .i64 n, .string nm, .int .i64 10, .int .i64 wd, .int .i64 pr, .int .i64 ex, .int .i64 le, .int .i64 mo, .int .i64 pa, .bool dn]
theorem rof_dec {n : Int} (h : decN n) (w : World) : Calls Tryz.prog 10 #[.int .i64 n] w fun x w' => x = .returned (.tuple #[IDec n (nameN n) (((fD n).t + ((fD n).w + 6) : Nat) : Int) (3 * ((fD n).j : Int) + 1) (expN n) (fD n).l ((fD n).l + 3 * 2 ^ (fD n).w - 1) (3 * ((fD n).j : Int)) (fD n).dn, .int .i64 0]) ∧ Below w.heap.size w w' := by
  obtain ⟨hok, h1, h2, h3, h4, h5, h6, h7, h8⟩ := dec_fields h
  have c25 := rofv_any n w
  rw [show infoE n = 0 from if_pos hok, h1, h2, h3, h4, h5, h6, h7, h8] at c25
  exact c25
theorem below_drewD {b : Nat} {w w' : World} (h : Below b w w') (m : Nat) : Below b w (w'.drewN m) := ⟨h.os, h.tape, h.output, h.size, h.block⟩
set_option maxHeartbeats 400000 in
theorem rshape (n : Int) (nm : ByteArray) (wd pr ex le mo pa : Int) (dn : Bool) (G T J : Int) (w : World) (h0 : 0 ≤ wd) (h1 : wd ≤ 256) (h2 : 1 ≤ pr) (h3 : pr ≤ 100) (hG : wd / 16 + 9 = G) (hG0 : 0 ≤ G) (hG1 : G ≤ 100) (hT : wd - 1 - G = T) (hJ : (pr - 1) / 3 = J) :
    Calls Tryz.prog 51 #[IDec n nm wd pr ex le mo pa dn] w fun r w' => r = .returned (.tuple #[.int .i64 G, .int .i64 T, .int .i64 J]) ∧ Below w.heap.size w w' := by
  go_enter Tryz.func51, Tryz.ntmps51
  go_wp2
  go_quiet (fail)
  go_wp2
  exact bodyPost_ret (by simp only [results, Tryz.results51]; go_simp) rfl ⟨rfl, below_drewD (below1 w _) _⟩
theorem dec_shape {n : Int} (h : decN n) (nm : ByteArray) (ex le mo pa : Int) (dn : Bool) (w : World) :
    Calls Tryz.prog 51 #[IDec n nm (((fD n).t + ((fD n).w + 6) : Nat) : Int) (3 * ((fD n).j : Int) + 1) ex le mo pa dn] w fun r w' => r = .returned (.tuple #[.int .i64 (((fD n).w : Int) + 5), .int .i64 ((fD n).t : Int), .int .i64 ((fD n).j : Int)]) ∧ Below w.heap.size w w' := by
  rcases fD_ok n with ⟨h1, h2, h3, h4⟩ | ⟨h1, h2, h3, h4⟩ | ⟨h1, h2, h3, h4⟩ <;> rw [h1, h2, h3] <;> exact rshape n nm _ _ ex le mo pa dn _ _ _ w (by decide) (by decide) (by decide) (by decide) rfl (by decide) (by decide) rfl rfl
end Go.Proofs.YtmommdhnogogdaaGreatDoor

namespace Go.Proofs.YtmommdhnogogdaaGreatDoor
open Go.RowKit
theorem W4_nought {k : Nat} (hk : k < 2 ^ 256) : decide (W4 k 0 = 0 ∧ W4 k 1 = 0 ∧ W4 k 2 = 0 ∧ W4 k 3 = 0) = decide (k = 0) := by
  by_cases h : k = 0
  · subst h
    rw [decide_eq_true (by simp [W4_zero]), decide_eq_true rfl]
  · rw [decide_eq_false h, decide_eq_false]
    rintro ⟨h0, h1, h2, h3⟩
    refine h (A4_inj hk (by decide) fun i hi => ?_)
    have : i = 0 ∨ i = 1 ∨ i = 2 ∨ i = 3 := by omega
    rcases this with rfl | rfl | rfl | rfl
    · rw [h0, W4_zero]
    · rw [h1, W4_zero]
    · rw [h2, W4_zero]
    · rw [h3, W4_zero]
attribute [local irreducible] W4
section
variable (n : Int) (nm : ByteArray) (wd pr ex le mo pa : Int) (dn : Bool) (c x : Int) (s g : Bool) (k : Nat) (w : World)
set_option maxHeartbeats 1000000 in
theorem vis1_g : Calls Tryz.prog 57 #[IDec n nm wd pr ex le mo pa dn, DV 1 s true x k] w fun r w' => r = .returned (.bool false) ∧ Below w.heap.size w w' := by
  go_enter Tryz.func57, Tryz.ntmps57
  go_wp2
  go_ret
  exact ⟨rfl, bgo⟩
set_option maxHeartbeats 1000000 in
theorem vis1_b (cb : ∀ W, Calls Tryz.prog 17 #[A4 k, .int .i64 10, .int .i64 pr] W fun r w' => r = .returned (.bool false) ∧ Below W.heap.size W w') :
    Calls Tryz.prog 57 #[IDec n nm wd pr ex le mo pa dn, DV 1 s false x k] w fun r w' => r = .returned (.bool false) ∧ Below w.heap.size w w' := by
  unfold A4 at cb
  go_enter Tryz.func57, Tryz.ntmps57
  go_wp2_with (go_at_call 17; refine (cb _).mono ?_; rintro r w1 ⟨rfl, hb1⟩; obtain ⟨hc1, hf1⟩ := bcell hb1; have hz1_0 : w.heap.size < w1.heap.size := lt_below hb1 ltg; have hl1_0 := Nat.le_of_lt hz1_0; have hz1_1 : w.heap.size + 1 < w1.heap.size := lt_below hb1 ltg; have hl1_1 := Nat.le_of_lt hz1_1; have hA1 := bnext (w0 := w) bgo hb1; have hs1 := hA1.size; clear hb1)
  go_ret
  exact ⟨rfl, bgo⟩
set_option maxHeartbeats 1000000 in
theorem vis1_l (hx : ¬ le ≤ x) (cb : ∀ W, Calls Tryz.prog 17 #[A4 k, .int .i64 10, .int .i64 pr] W fun r w' => r = .returned (.bool true) ∧ Below W.heap.size W w') :
    Calls Tryz.prog 57 #[IDec n nm wd pr ex le mo pa dn, DV 1 s false x k] w fun r w' => r = .returned (.bool false) ∧ Below w.heap.size w w' := by
  unfold A4 at cb
  go_enter Tryz.func57, Tryz.ntmps57
  go_wp2_with (go_at_call 17; refine (cb _).mono ?_; rintro r w1 ⟨rfl, hb1⟩; obtain ⟨hc1, hf1⟩ := bcell hb1; have hz1_0 : w.heap.size < w1.heap.size := lt_below hb1 ltg; have hl1_0 := Nat.le_of_lt hz1_0; have hz1_1 : w.heap.size + 1 < w1.heap.size := lt_below hb1 ltg; have hl1_1 := Nat.le_of_lt hz1_1; have hA1 := bnext (w0 := w) bgo hb1; have hs1 := hA1.size; clear hb1)
  go_ret
  exact ⟨rfl, bgo⟩
set_option maxHeartbeats 1000000 in
theorem vis1_m (hx : le ≤ x) (cb : ∀ W, Calls Tryz.prog 17 #[A4 k, .int .i64 10, .int .i64 pr] W fun r w' => r = .returned (.bool true) ∧ Below W.heap.size W w') :
    Calls Tryz.prog 57 #[IDec n nm wd pr ex le mo pa dn, DV 1 s false x k] w fun r w' => r = .returned (.bool (decide (x ≤ mo))) ∧ Below w.heap.size w w' := by
  unfold A4 at cb
  go_enter Tryz.func57, Tryz.ntmps57
  go_wp2_with (go_at_call 17; refine (cb _).mono ?_; rintro r w1 ⟨rfl, hb1⟩; obtain ⟨hc1, hf1⟩ := bcell hb1; have hz1_0 : w.heap.size < w1.heap.size := lt_below hb1 ltg; have hl1_0 := Nat.le_of_lt hz1_0; have hz1_1 : w.heap.size + 1 < w1.heap.size := lt_below hb1 ltg; have hl1_1 := Nat.le_of_lt hz1_1; have hA1 := bnext (w0 := w) bgo hb1; have hs1 := hA1.size; clear hb1)
  go_ret
  exact ⟨rfl, bgo⟩
set_option maxHeartbeats 1000000 in
theorem vis2_g : Calls Tryz.prog 57 #[IDec n nm wd pr ex le mo pa dn, DV 2 s true x k] w fun r w' => r = .returned (.bool false) ∧ Below w.heap.size w w' := by
  go_enter Tryz.func57, Tryz.ntmps57
  go_wp2
  go_ret
  exact ⟨rfl, bgo⟩
set_option maxHeartbeats 1000000 in
theorem vis2_k (hk : k < 2 ^ 256) (h0 : k ≠ 0) : Calls Tryz.prog 57 #[IDec n nm wd pr ex le mo pa dn, DV 2 s false x k] w fun r w' => r = .returned (.bool false) ∧ Below w.heap.size w w' := by
  have h24 := eq24 (W4 k 0) (W4 k 1) (W4 k 2) (W4 k 3) 0 0 0 0
  rw [W4_nought hk, decide_eq_false h0] at h24
  clear h0
  unfold DV at *
  go_enter Tryz.func57, Tryz.ntmps57
  go_wp2
  go_ret
  exact ⟨rfl, bgo⟩
set_option maxHeartbeats 1000000 in
theorem vis2_x (h0 : k = 0) : Calls Tryz.prog 57 #[IDec n nm wd pr ex le mo pa dn, DV 2 s false x k] w fun r w' => r = .returned (.bool (x == 0)) ∧ Below w.heap.size w w' := by
  have h24 := eq24 (W4 k 0) (W4 k 1) (W4 k 2) (W4 k 3) 0 0 0 0
  rw [W4_nought (by rw [h0]; decide), decide_eq_true h0] at h24
  clear h0
  unfold DV at *
  go_enter Tryz.func57, Tryz.ntmps57
  go_wp2
  go_ret
  exact ⟨rfl, bgo⟩
set_option maxHeartbeats 1000000 in
theorem vis3_x (hx : (x == 0) = false) : Calls Tryz.prog 57 #[IDec n nm wd pr ex le mo pa dn, DV 3 s g x k] w fun r w' => r = .returned (.bool false) ∧ Below w.heap.size w w' := by
  go_enter Tryz.func57, Tryz.ntmps57
  go_wp2
  go_ret
  exact ⟨rfl, bgo⟩
set_option maxHeartbeats 1000000 in
theorem vis3_b (R : Bool) (cb : ∀ W, Calls Tryz.prog 17 #[A4 k, .int .i64 10, .int .i64 pa] W fun r w' => r = .returned (.bool R) ∧ Below W.heap.size W w') :
    Calls Tryz.prog 57 #[IDec n nm wd pr ex le mo pa dn, DV 3 s g 0 k] w fun r w' => r = .returned (.bool R) ∧ Below w.heap.size w w' := by
  unfold A4 at cb
  go_enter Tryz.func57, Tryz.ntmps57
  go_wp2_with (go_at_call 17; refine (cb _).mono ?_; rintro r w1 ⟨rfl, hb1⟩; obtain ⟨hc1, hf1⟩ := bcell hb1; have hz1_0 : w.heap.size < w1.heap.size := lt_below hb1 ltg; have hl1_0 := Nat.le_of_lt hz1_0; have hz1_1 : w.heap.size + 1 < w1.heap.size := lt_below hb1 ltg; have hl1_1 := Nat.le_of_lt hz1_1; have hA1 := bnext (w0 := w) bgo hb1; have hs1 := hA1.size; clear hb1)
  go_ret
  exact ⟨rfl, bgo⟩
set_option maxHeartbeats 1000000 in
theorem vis_o (h1 : (c == 1) = false) (h2 : (c == 2) = false) (h3 : (c == 3) = false) : Calls Tryz.prog 57 #[IDec n nm wd pr ex le mo pa dn, DV c s g x k] w fun r w' => r = .returned (.bool false) ∧ Below w.heap.size w w' := by
  go_enter Tryz.func57, Tryz.ntmps57
  go_wp2
  go_ret
  exact ⟨rfl, bgo⟩
end
instance (f : DF) (d : Dat) : Decidable (vI f d) := inferInstanceAs (Decidable (_ ∨ _))
theorem ris14 (f : DF) (hf : f.ok) (n : Int) (nm : ByteArray) (wd ex : Int) (dn : Bool) (d : Dat) (w : World) (hk : d.k < 2 ^ 256) :
    Calls Tryz.prog 57 #[IDec n nm wd (3 * (f.j : Int) + 1) ex f.l (f.l + 3 * 2 ^ f.w - 1) (3 * (f.j : Int)) dn, d.v] w fun r w' => r = .returned (.bool (decide (vI f d))) ∧ Below w.heap.size w w' := by
  obtain ⟨c, s, g, x, k⟩ := d
  simp only at hk
  have hj : f.j ≤ 11 := by rcases hf with ⟨h1, h2, h3, h4⟩ | ⟨h1, h2, h3, h4⟩ | ⟨h1, h2, h3, h4⟩ <;> omega
  have cb1 := fun W => rbelowt k (3 * f.j + 1) W hk (by omega)
  rw [show ((3 * f.j + 1 : Nat) : Int) = 3 * (f.j : Int) + 1 by omega] at cb1
  have cb3 := fun W => rbelowt k (3 * f.j) W hk (by omega)
  rw [show ((3 * f.j : Nat) : Int) = 3 * (f.j : Int) by omega] at cb3
  by_cases h1 : c = 1
  · subst h1
    have e : vI f ⟨1, s, g, x, k⟩ ↔ (g = false ∧ k < 10 ^ (3 * f.j + 1) ∧ f.l ≤ x ∧ x ≤ f.l + 3 * 2 ^ f.w - 1) := by
      unfold vI
      simp
    rw [decide_eq_decide.2 e]
    cases g
    · by_cases hb : k < 10 ^ (3 * f.j + 1)
      · rw [decide_eq_true hb] at cb1
        by_cases hx : f.l ≤ x
        · have := vis1_m n nm wd _ ex f.l (f.l + 3 * 2 ^ f.w - 1) (3 * (f.j : Int)) dn x s k w hx cb1
          have e2 : decide (x ≤ f.l + 3 * 2 ^ f.w - 1) = decide ((false : Bool) = false ∧ k < 10 ^ (3 * f.j + 1) ∧ f.l ≤ x ∧ x ≤ f.l + 3 * 2 ^ f.w - 1) := decide_eq_decide.2 ⟨fun h => ⟨rfl, hb, hx, h⟩, fun h => h.2.2.2⟩
          rw [e2] at this
          exact this
        · rw [decide_eq_false (fun h => hx h.2.2.1)]
          exact vis1_l n nm wd _ ex f.l _ _ dn x s k w hx cb1
      · rw [decide_eq_false hb] at cb1
        rw [decide_eq_false (fun h => hb h.2.1)]
        exact vis1_b n nm wd _ ex f.l _ _ dn x s k w cb1
    · rw [decide_eq_false (fun h => by cases h.1)]
      exact vis1_g n nm wd _ ex f.l _ _ dn x s k w
  by_cases h2 : c = 2
  · subst h2
    have e : vI f ⟨2, s, g, x, k⟩ ↔ (g = false ∧ k = 0 ∧ x = 0) := by
      unfold vI
      simp
    rw [decide_eq_decide.2 e]
    cases g
    · by_cases hz : k = 0
      · have := vis2_x n nm wd (3 * (f.j : Int) + 1) ex f.l (f.l + 3 * 2 ^ f.w - 1) (3 * (f.j : Int)) dn x s k w hz
        rw [show (x == 0) = decide (false = false ∧ k = 0 ∧ x = 0) by rw [Bool.eq_iff_iff]; simp [hz]] at this
        exact this
      · rw [decide_eq_false (fun h => hz h.2.1)]
        exact vis2_k n nm wd _ ex f.l _ _ dn x s k w hk hz
    · rw [decide_eq_false (fun h => by cases h.1)]
      exact vis2_g n nm wd _ ex f.l _ _ dn x s k w
  by_cases h3 : c = 3
  · subst h3
    have e : vI f ⟨3, s, g, x, k⟩ ↔ (x = 0 ∧ k < 10 ^ (3 * f.j)) := by
      unfold vI
      simp
    rw [decide_eq_decide.2 e]
    by_cases hx : x = 0
    · subst hx
      have := vis3_b n nm wd (3 * (f.j : Int) + 1) ex f.l (f.l + 3 * 2 ^ f.w - 1) (3 * (f.j : Int)) dn s g k w _ cb3
      rw [decide_eq_decide.2 (show (k < 10 ^ (3 * f.j)) ↔ ((0 : Int) = 0 ∧ k < 10 ^ (3 * f.j)) from ⟨fun h => ⟨rfl, h⟩, fun h => h.2⟩)] at this
      exact this
    · rw [decide_eq_false (fun h => hx h.1)]
      exact vis3_x n nm wd _ ex f.l _ _ dn x s g k w (by simp [hx])
  · rw [decide_eq_false (show ¬ vI f ⟨c, s, g, x, k⟩ by unfold vI; simp [h1, h2, h3])]
    exact vis_o n nm wd _ ex f.l _ _ dn c x s g k w (by simp [h1]) (by simp [h2]) (by simp [h3])
end Go.Proofs.YtmommdhnogogdaaGreatDoor

namespace Go.Proofs.YtmommdhnogogdaaGreatDoor
open Go.RowKit
theorem nt_unit {W : World} {g V : Nat} {vi : Int} (hg : g = W.heap.size) (hv : vi = (V : Int)) (hb : V < 18446744073709551616) (h0 : V ≠ 0) : NT 1 V (.slice (some ⟨g, 0, none⟩) 1 1) (W.alloc (.cells #[.int .u64 vi] 22)) := by
  subst hg hv
  have h1 : ¬ ((V : Int) = 0) := by omega
  exact ⟨_, 1, 1, oneW V, rfl, Nat.le_refl _, num_one W V (by omega), by simp [val, oneW], by simp [sizeL, oneW, h0]⟩
theorem nat_half (s m : Nat) : s ^ m = (if m % 2 = 1 then s else 1) * (s * s) ^ (m / 2) := by
  have e : (s * s) ^ (m / 2) = s ^ (2 * (m / 2)) := by rw [Nat.pow_mul]; congr 1; rw [Nat.pow_succ, Nat.pow_succ, Nat.pow_zero, Nat.one_mul]
  rw [e]
  by_cases h : m % 2 = 1
  · rw [if_pos h, Nat.mul_comm, ← Nat.pow_succ]; congr 1; omega
  · rw [if_neg h, Nat.one_mul]; congr 1; omega
attribute [local irreducible] NT NV
set_option maxHeartbeats 2000000 in
theorem rpow_nt (b n : Nat) (w : World) (hb0 : b ≠ 0) (hb : b < 18446744073709551616) (hn : n ≤ 12000) :
    Calls Tryz.prog 56 #[.int .u64 (b : Int), .int .i64 (n : Int)] w fun e w' => ∃ v, e = .returned v ∧ NT (4 * n + 2) (b ^ n) v w' ∧ Below w.heap.size w w' := by
  have hN1 := (nt_unit (W := w) (g := w.heap.size) (V := 1) (vi := 1) rfl rfl (by decide) (by decide)).next (below1 _ (.cells #[.int .u64 (b : Int)] 22))
  have hN2 := nt_unit (W := w.alloc (.cells #[.int .u64 1] 22)) (g := w.heap.size + 1) (V := b) (vi := (b : Int)) (by simp) rfl hb hb0
  have HB : Hid (Below w.heap.size w ((w.alloc (.cells #[.int .u64 1] 22)).alloc (.cells #[.int .u64 (b : Int)] 22))) := ((Below.refl _ _).alloc (Nat.le_refl _) _).alloc (by simp) _
  go_enter Tryz.func56, Tryz.ntmps56
  go_wp2
  generalize (w.alloc (.cells #[.int .u64 1] 22)).alloc (.cells #[.int .u64 (b : Int)] 22) = wA at *
  go_loopw [1, 5, 6] (fun nv ov sv wr => ∃ (m P X Y : Nat), nv = .int .i64 (m : Int) ∧ m ≤ n ∧ 1 ≤ P ∧ m * P ≤ n ∧ P ≤ 2 * n + 1 ∧ NT (2 * P - 1) X ov wr ∧ NT (2 * P - 1) Y sv wr ∧ Hid (X * Y ^ m = b ^ n) ∧ Below w.heap.size w wr) (fun nv _ _ _ => (intOf nv).toNat)
  case atStart => exact ⟨n, 1, 1, b, rfl, Nat.le_refl _, Nat.le_refl _, by omega, by omega, hN1, hN2, by show _ = _; rw [Nat.one_mul], HB.out⟩
  case round =>
    clear hN1 hN2 HB
    obtain ⟨m, P, X, Y, rfl, hmn, hP, hmP, hP2, hN1, hN2, hv, hB⟩ := hrel
    by_cases h0 : m = 0
    · subst h0
      have HV : Hid (X = b ^ n) := by show _ = _; have := hv.out; rw [Nat.pow_zero, Nat.mul_one] at this; exact this
      clear hN2 hv
      go_wp2
      go_ret
      exact ⟨_, rfl, by rw [← HV.out]; exact hN1.more (by omega), hB⟩
    · have hm0 : (0 : Int) < m := by omega
      have hPn : P ≤ n := by
        have : 1 * P ≤ m * P := Nat.mul_le_mul_right P (by omega)
        omega
      have hq2 : (m : Int) / 2 = ((m / 2 : Nat) : Int) := by omega
      have hr2 : (m : Int) % 2 = ((m % 2 : Nat) : Int) := by omega
      have hmP' : m / 2 * (2 * P) ≤ n := by
        have h1 : m / 2 * 2 ≤ m := Nat.div_mul_le_self m 2
        have h2 : m / 2 * 2 * P ≤ m * P := Nat.mul_le_mul_right P h1
        rw [← Nat.mul_assoc]; omega
      have HPH : Hid (Y ^ m = (if m % 2 = 1 then Y else 1) * (Y * Y) ^ (m / 2)) := nat_half _ _
      generalize hq : m / 2 = q at *
      by_cases hodd : m % 2 = 1
      · rw [hodd] at hr2
        rw [if_pos hodd] at HPH
        have t1 := rtimes_nt (by omega) (by omega) hN1.nv hN2.nv
        by_cases hq0 : q = 0
        · subst hq0
          have hq00 : (m : Int) / 2 = 0 := hq2
          clear hq2
          go_wp2_with (go_at_call 15; refine t1.mono ?_; rintro e w1 ⟨r1, rfl, hr1, hb1⟩; clear t1)
          have HV3 : Hid (X * Y * Y ^ 0 = b ^ n) := by
            show _ = _
            rw [← hv.out, HPH.out]; simp
          have hN2' := hN2.next hb1
          have hB1 := hB.trans (hb1.mono hB.size)
          clear hN1 hN2 hv
          go_roundw
          case rel => exact ⟨0, 2 * P, X * Y, Y, rfl, by omega, by omega, by omega, by omega, hr1.more (by omega), hN2'.more (by omega), HV3, hB1⟩
          case measure => simp [intOf]; omega
        · have hq0' : (0 : Int) < q := by omega
          go_wp2_with (go_at_call 15; refine t1.mono ?_; rintro e w1 ⟨r1, rfl, hr1, hb1⟩; clear t1)
          have hB1 := hB.trans (hb1.mono hB.size)
          have hN21 := hN2.next hb1
          have t2 := rtimes_nt (by omega) (by omega) hN21.nv hN21.nv
          go_wp2_with (go_at_call 15; refine t2.mono ?_; rintro e w2 ⟨r2, rfl, hr2', hb2⟩; clear t2)
          have HV3 : Hid (X * Y * (Y * Y) ^ q = b ^ n) := by
            show _ = _
            rw [← hv.out, HPH.out, Nat.mul_assoc]
          have hr1' := hr1.next hb2
          have hB2 := hB1.trans (hb2.mono hB1.size)
          clear hN1 hN2 hN21 hr1 hv
          go_roundw
          case rel => exact ⟨q, 2 * P, X * Y, Y * Y, rfl, by omega, by omega, by omega, by omega, hr1'.more (by omega), hr2'.more (by omega), HV3, hB2⟩
          case measure => simp [intOf]; omega
      · have h20 : m % 2 = 0 := by omega
        rw [h20] at hr2
        rw [if_neg hodd, Nat.one_mul] at HPH
        have hq0' : (0 : Int) < q := by omega
        have t2 := rtimes_nt (by omega) (by omega) hN2.nv hN2.nv
        go_wp2_with (go_at_call 15; refine t2.mono ?_; rintro e w2 ⟨r2, rfl, hr2', hb2⟩; clear t2)
        have HV3 : Hid (X * (Y * Y) ^ q = b ^ n) := by
          show _ = _
          rw [← hv.out, HPH.out]
        have hN1' := hN1.next hb2
        have hB2 := hB.trans (hb2.mono hB.size)
        clear hN1 hN2 hv
        go_roundw
        case rel => exact ⟨q, 2 * P, X, Y * Y, rfl, by omega, by omega, by omega, by omega, hN1'.more (by omega), hr2'.more (by omega), HV3, hB2⟩
        case measure => simp [intOf]; omega
end Go.Proofs.YtmommdhnogogdaaGreatDoor

namespace Go.Proofs.YtmommdhnogogdaaGreatDoor
open Go.RowKit

theorem rdir_any (d : Int) (w : World) : Calls Tryz.prog 9 #[.int .i64 d] w fun e w' => e = .returned (.bool (decide (knB d))) ∧ w = w' := by
  by_cases h0 : 0 ≤ d
  · by_cases h4 : d ≤ 4
    · have e : decide (knB d) = true := by unfold knB; simp [h0, h4]
      rw [e]
      go_enter Tryz.func9, Tryz.ntmps9
      go_wp2
      go_ret
      exact ⟨by simp [h0, h4], rfl⟩
    · have e : decide (knB d) = false := by unfold knB; simp [h0, h4]
      rw [e]
      go_enter Tryz.func9, Tryz.ntmps9
      go_wp2
      go_ret
      exact ⟨by simp [h0, h4], rfl⟩
  · have e : decide (knB d) = false := by unfold knB; simp [h0]
    rw [e]
    go_enter Tryz.func9, Tryz.ntmps9
    go_wp2
    go_ret
    exact ⟨by simp [h0], rfl⟩
set_option maxHeartbeats 400000 in
theorem rfar_kn (d : Int) (s : Bool) (w : World) (hk : knB d) : Calls Tryz.prog 79 #[.int .i64 d, .bool s] w fun e w' => e = .returned (.bool (inB d s)) ∧ w = w' := by
  have hd : d = 0 ∨ d = 1 ∨ d = 2 ∨ d = 3 ∨ d = 4 := by unfold knB at hk; omega
  rcases hd with rfl | rfl | rfl | rfl | rfl <;>
  · go_enter Tryz.func79, Tryz.ntmps79
    go_wp2
    go_ret
    exact ⟨by simp [inB], rfl⟩
theorem nv_uno {W : World} {g V : Nat} {vi : Int} (hg : g = W.heap.size) (hv : vi = (V : Int)) (hb : V < 18446744073709551616) : NV 1 V (.slice (some ⟨g, 0, none⟩) 1 1) (W.alloc (.cells #[.int .u64 vi] 22)) := by
  subst hg hv
  exact ⟨_, 1, 1, oneW V, rfl, Nat.le_refl _, num_one W V (by omega), val_one1 V⟩
section
variable (x : Int) (vn vd : Value) (A B KK : Nat) (w : World)
end
set_option maxHeartbeats 1000000 in
theorem over_one (ga gb s c c' : Nat) (x y : Nat → Int) (w : World) (hs : s < 20001) (h : Num w (some ⟨ga, 0, none⟩) s c x) (h' : Num w (some ⟨gb, 0, none⟩) 1 c' y) (hys : sizeL y 1 = 1) :
    Calls Tryz.prog 16 #[.slice (some ⟨ga, 0, none⟩) s c, .slice (some ⟨gb, 0, none⟩) 1 c'] w (OvOut (val x s) (val y 1) w) := by
  have hy := h'.2.2.1
  have c31 := size_num _ 1 c' y w (by omega) h'
  rw [hys] at c31
  have hy0 : y 0 ≠ 0 := by have := sizeL_top (x := y) 1 (by omega); rw [hys] at this; exact this
  have hyb := hy 0
  have ev : val y 1 = y 0 := by simp [val]
  have c107 := small_any (some ⟨ga, 0, none⟩) s c x (y 0) w (by omega) h (by omega)
  have hc : gb < w.heap.size ∧ w.cell? ⟨gb, 0, none⟩ = some (.int .u64 (y 0)) := by
    rcases h'.2.2.2.2 with ⟨h, _⟩ | ⟨b', off', h, hbs, hc⟩
    · cases h
    · cases h; exact ⟨hbs, hc 0 (by omega)⟩
  obtain ⟨hgb, hcc⟩ := hc
  rw [ev]
  clear h h'
  go_enter Tryz.func16, Tryz.ntmps16
  go_wp2_with (first | (go_at_call 40; refine c31.mono ?_; rintro e w' ⟨rfl, rfl⟩) | (go_at_call 41; refine c107.mono ?_; rintro e w1 ⟨g, k, cap, z, g', k', cap', z', rfl, hk, hk', hN, hN', hv, hv', hB, ht⟩))
  go_ret2
  exact ⟨g, k, cap, z, g', k', cap', z', rfl, by omega, by omega, hN, hN', hv, hv', hB, ht⟩
/-- quotient and rest, the document's -/
theorem rover_nt {K N D : Nat} {vn vd : Value} {w : World} (hK : K ≤ 20000) (h : NT K N vn w) (h' : NT K D vd w) (hD : D ≠ 0) :
    Calls Tryz.prog 16 #[vn, vd] w fun e w' => ∃ q r, e = .returned (.tuple #[q, r]) ∧ NV 41000 (N / D) q w' ∧ NT 41000 (N % D) r w' ∧ Below w.heap.size w w' := by
  have hk0 := h'.zero
  obtain ⟨ga, s, c, x, rfl, hs, hN, hx, hxs⟩ := h
  obtain ⟨gb, t, c', y, rfl, ht, hN', hy, hys⟩ := h'
  have fin : ∀ e w', OvOut (val x s) (val y t) w e w' → ∃ q r, e = .returned (.tuple #[q, r]) ∧ NV 41000 (N / D) q w' ∧ NT 41000 (N % D) r w' ∧ Below w.heap.size w w' := by
    rintro e w' ⟨g, k, cap, z, g', k', cap', z', e1, hk, hk', hA, hB, hv, hv', hb, htr⟩
    refine ⟨_, _, e1, ⟨g, k, cap, z, rfl, hk, hA, ?_⟩, ⟨g', k', cap', z', rfl, hk', hB, ?_, htr⟩, hb⟩
    · rw [hv, hx, hy]; rfl
    · rw [hv', hx, hy]; rfl
  have ht0 : t ≠ 0 := by
    intro e; subst e
    have : val y 0 = 0 := rfl
    omega
  by_cases ht1 : t = 1
  · subst ht1
    exact (over_one ga gb s c c' x y w (by omega) hN hN' hys).mono fin
  · exact (over_any ga gb s c t c' x y w (by omega) (by omega) (by omega) hN hN' hxs hys).mono fin
end Go.Proofs.YtmommdhnogogdaaGreatDoor

namespace Go.Proofs.YtmommdhnogogdaaGreatDoor
open Go.RowKit
theorem p10_posN (n : Nat) : (0 : Int) < 10 ^ n := Int.pow_pos (by decide)

theorem val_ones : ∀ t, val (fun _ => 18446744073709551615) t = 18446744073709551616 ^ t - 1
  | 0 => by simp [val]
  | t + 1 => by
    show val (fun _ => 18446744073709551615) t + 18446744073709551615 * 18446744073709551616 ^ t = 18446744073709551616 ^ (t + 1) - 1
    rw [val_ones t, Int.pow_succ]; omega
/-- a trimmed number below B^t has t words at most -/
theorem size_bound {z : Nat → Int} (hz : Words z) {k t : Nat} (hs : sizeL z k = k) (hv : val z k < 18446744073709551616 ^ t) : k ≤ t := by
  rcases Nat.lt_or_ge t k with h | h
  · have := val_longer (x := fun _ => 18446744073709551615) (fun _ => (by decide : (0 : Int) ≤ 18446744073709551615 ∧ (18446744073709551615 : Int) ≤ 18446744073709551615)) hz h hs
    rw [val_ones] at this; omega
  · exact h
theorem p19 : ∀ t : Nat, (10 : Int) ^ (19 * t) ≤ 18446744073709551616 ^ t
  | 0 => by simp
  | t + 1 => by
    have ih := p19 t
    have e : (10 : Int) ^ (19 * (t + 1)) = 10 ^ (19 * t) * 10000000000000000000 := by rw [Nat.mul_add, Int.pow_add]; rfl
    rw [e, Int.pow_succ]
    have h0 := pw_pos t
    have h1 := p10_posN (19 * t)
    generalize (18446744073709551616 : Int) ^ t = A at *
    generalize (10 : Int) ^ (19 * t) = B at *
    omega
theorem pow_le10 {b : Int} (hb : 0 ≤ b) (hb2 : b ≤ 10) : ∀ e : Nat, 0 ≤ b ^ e ∧ b ^ e ≤ 10 ^ e
  | 0 => by simp
  | e + 1 => by
    have ih := pow_le10 hb hb2 e
    rw [Int.pow_succ, Int.pow_succ]
    exact ⟨Int.mul_nonneg ih.1 hb, Int.mul_le_mul ih.2 hb2 hb (Int.le_of_lt (p10_posN e))⟩
theorem pow_small {b : Int} (hb : 0 ≤ b) (hb2 : b ≤ 10) {e : Nat} (he : e ≤ 12000) : b ^ e < 18446744073709551616 ^ 632 := by
  have h1 := (pow_le10 hb hb2 e).2
  have h2 := p19 632
  have h3 : (10 : Int) ^ e < 10 ^ (19 * 632) := by
    obtain ⟨k, hk⟩ : ∃ k, 19 * 632 = e + 1 + k := ⟨19 * 632 - (e + 1), by omega⟩
    rw [hk, Int.pow_add, Int.pow_succ]
    have := p10_posN e
    have h4 := p10_posN k
    have h5 : (10 : Int) ^ e * 10 * 1 ≤ 10 ^ e * 10 * 10 ^ k := Int.mul_le_mul_of_nonneg_left (by omega) (by omega)
    omega
  exact Int.lt_of_lt_of_le (Int.lt_of_le_of_lt h1 h3) h2

set_option maxHeartbeats 2000000 in
theorem npow_any (b : Int) (n : Nat) (w : World) (hb : b = 5 ∨ b = 10) (hn : n ≤ 12000) :
    Calls Tryz.prog 71 #[.int .i64 b, .int .i64 n] w fun e w' => ∃ g k cap z, e = .returned (.tuple #[.slice (some ⟨g, 0, none⟩) k cap, .int .i64 0]) ∧ k ≤ 2001 ∧ Num w' (some ⟨g, 0, none⟩) k cap z ∧ val z k = b ^ n ∧ sizeL z k = k ∧ Below w.heap.size w w' := by
  have hb0 : 0 ≤ b ∧ b ≤ 10 := by omega
  have hbc : b = 5 ∨ b = 10 := hb
  have hb2 : (b == 2) = false := by simp; omega
  have hN1 := num_one w 1 (by decide)
  have hBB := below1 w (.cells #[.int .u64 1] 22)
  have hn' : (n : Int) ≤ 12000 := by omega
  have hlen := Tryz.bits_Len n (w.alloc (.cells #[.int .u64 1] 22)) (by omega) (by omega)
  rw [Int.toNat_natCast] at hlen
  obtain ⟨L, hL⟩ : ∃ L, Lib.bitLen n = L := ⟨_, rfl⟩
  have hL64 : L ≤ 64 := by rw [← hL]; exact bitLen64 n
  have HLn : Hid (n / 2 ^ L = 0) := by
    show _ = _
    by_cases h0 : n = 0
    · subst h0; simp
    · have := bitLen_spec n (by omega) (by omega)
      rw [hL] at this
      exact Nat.div_eq_of_lt this.2.2.2
  rw [hL] at hlen
  clear hL
  have HS1 : Hid (sizeL (oneW 1) 1 = 1) := by show _ = _; simp [sizeL, oneW]
  have hne : (b != 2) = true := by simp; omega
  have hpick : (b != 5) = true ∧ (b != 10) = false ∨ (b != 5) = false := by rcases hb with rfl | rfl <;> decide
  have hps : ∀ e, e ≤ 12000 → b ^ e < 18446744073709551616 ^ 632 := fun e he => pow_small hb0.1 hb0.2 he
  have HPS : Hid (∀ e, e ≤ 12000 → b ^ e < 18446744073709551616 ^ 632) := hps
  clear hps hb
  rcases hpick with ⟨h5, h10⟩ | h5
  all_goals
    go_enter Tryz.func71, Tryz.ntmps71
    go_wp2_with (go_at_call 93; refine hlen.mono ?_; rintro e w' ⟨rfl, rfl⟩)
    generalize w.alloc (.cells #[.int .u64 1] 22) = wA at *
    go_loopw [6, 7, 40, 51] (fun pv iv u40 u51 wr => ∃ (k kk g p : Nat) (z : Nat → Int), k ≤ L ∧ iv = .int .i64 ((k : Int) - 1) ∧ pv = .slice (some ⟨g, 0, none⟩) kk p ∧ kk ≤ 632 ∧ Num wr (some ⟨g, 0, none⟩) kk p z ∧ sizeL z kk = kk ∧ Hid (val z kk = b ^ (n / 2 ^ k)) ∧ Below w.heap.size w wr) (fun _ iv _ _ _ => (intOf iv + 1).toNat)
    case atStart => exact ⟨L, 1, w.heap.size, 1, oneW 1, Nat.le_refl _, by go_num, rfl, by omega, hN1, HS1.out, by show _ = _; rw [val_one1, HLn.out, Int.pow_zero], hBB⟩
    case round =>
      clear hN1 hBB hlen
      obtain ⟨k, kk, g, p, z, hk, rfl, rfl, hkk, hN, hs, hv, hB⟩ := hrel
      by_cases h0 : k = 0
      · subst h0
        have HV : Hid (val z kk = b ^ n) := by show _ = _; have := hv.out; simpa using this
        have HN : Hid (Num wr (some ⟨g, 0, none⟩) kk p z) := hN
        have HS : Hid (sizeL z kk = kk) := hs
        clear hN hv hs
        go_wp2
        go_ret2
        exact ⟨g, kk, p, z, rfl, by omega, HN.out, HV.out, HS.out, hB⟩
      · obtain ⟨j, rfl⟩ : ∃ j, k = j + 1 := ⟨k - 1, by omega⟩
        have ej : ((j + 1 : Nat) : Int) - 1 = j := by omega
        rw [ej]
        obtain ⟨e, he⟩ : ∃ e, n / 2 ^ j = e := ⟨_, rfl⟩
        have hcast : (n : Int) / 2 ^ j = (e : Int) := by rw [← he, Int.natCast_ediv, powCast]
        have hen : e ≤ n := by rw [← he]; exact Nat.div_le_self _ _
        have hand := Go.Proofs.and_one e (by omega)
        have hhalf : n / 2 ^ (j + 1) = e / 2 := by rw [Nat.pow_succ, ← Nat.div_div_eq_div_mul, he]
        have m1 := nmul_any (some ⟨g, 0, none⟩) (some ⟨g, 0, none⟩) kk p kk p z z wr (by omega) (by omega) hN hN (by omega)
        have HV1 : Hid (val z kk * val z kk = b ^ (2 * (e / 2))) := by
          show _ = _
          rw [hv.out, hhalf, ← Int.pow_add]; congr 1; omega
        have HJ : Hid (j ≤ L) := by show _ ≤ _; omega
        have HE : Hid (n / 2 ^ j = e) := he
        clear ej he hhalf hN hs hv
        by_cases hodd : e % 2 = 1
        · rw [hodd] at hand
          go_wp2_with (go_at_call 65; refine m1.mono ?_; rintro e' w1 ⟨g1, k1, p1, z1, rfl, hk1, hN1, hv1, hs1, hb1⟩; clear m1)
          rw [HV1.out] at hv1
          have hk1b : k1 ≤ 632 := size_bound hN1.2.2.1 hs1 (by rw [hv1]; exact HPS.out _ (by omega))
          have hB1 := hB.trans (hb1.mono hB.size)
          have hNb := num_one w1 b (by omega)
          have hbb := below1 w1 (.cells #[.int .u64 b] 22)
          have hsb := sizeL_le (oneW b) 1
          have m2 := nmul_any (some ⟨g1, 0, none⟩) (some ⟨w1.heap.size, 0, none⟩) k1 p1 1 1 z1 (oneW b) (w1.alloc (.cells #[.int .u64 b] 22)) (by omega) (by omega) (hN1.next hbb) hNb (by omega)
          have HBB : Hid (Below w.heap.size w (w1.alloc (.cells #[.int .u64 b] 22))) := hB1.trans (hbb.mono hB1.size)
          clear hN1 hNb hbb
          go_wp2_with (go_at_call 65; refine m2.mono ?_; rintro e' w2 ⟨g2, k2, p2, z2, rfl, hk2, hN2, hv2, hs2, hb2⟩; clear m2)
          have hv3 : val z2 k2 = b ^ e := by
            rw [hv2, hv1, val_one1, ← Int.pow_succ]; congr 1; omega
          have hk2b : k2 ≤ 632 := size_bound hN2.2.2.1 hs2 (by rw [hv3]; exact HPS.out _ (by omega))
          have hB2 := HBB.out.trans (hb2.mono HBB.out.size)
          have HN2 : Hid (Num w2 (some ⟨g2, 0, none⟩) k2 p2 z2) := hN2
          clear hN2
          go_roundw
          case rel => exact ⟨j, k2, g2, p2, z2, HJ.out, by go_num, rfl, hk2b, HN2.out, hs2, by show _ = _; rw [HE.out, hv3], hB2⟩
          case measure => simp [intOf]
        · have he0 : e % 2 = 0 := by omega
          rw [he0] at hand
          go_wp2_with (go_at_call 65; refine m1.mono ?_; rintro e' w1 ⟨g1, k1, p1, z1, rfl, hk1, hN1, hv1, hs1, hb1⟩; clear m1)
          have hv3 : val z1 k1 = b ^ e := by
            rw [hv1, HV1.out]; congr 1; omega
          have hk1b : k1 ≤ 632 := size_bound hN1.2.2.1 hs1 (by rw [hv3]; exact HPS.out _ (by omega))
          have hB1 := hB.trans (hb1.mono hB.size)
          have HN1 : Hid (Num w1 (some ⟨g1, 0, none⟩) k1 p1 z1) := hN1
          clear hN1
          go_roundw
          case rel => exact ⟨j, k1, g1, p1, z1, HJ.out, by go_num, rfl, hk1b, HN1.out, hs1, by show _ = _; rw [HE.out, hv3], hB1⟩
          case measure => simp [intOf]
end Go.Proofs.YtmommdhnogogdaaGreatDoor

namespace Go.Proofs.YtmommdhnogogdaaGreatDoor
open Go.RowKit

/-- byte i of a text -/
def sb (s : ByteArray) (i : Nat) : Int := if h : i < s.size then ((s[i]'h).toNat : Int) else 0
/-- are the first k bytes digits? -/
def digB (s : ByteArray) : Nat → Bool
  | 0 => true
  | k + 1 => digB s k && decide (48 ≤ sb s k ∧ sb s k ≤ 57)
end Go.Proofs.YtmommdhnogogdaaGreatDoor

namespace Go.Proofs.YtmommdhnogogdaaGreatDoor
open Go.RowKit

/-- the number that the first k bytes write -/
def numV (s : ByteArray) : Nat → Int
  | 0 => 0
  | k + 1 => numV s k * 10 + (sb s k - 48)
theorem digB_at {s : ByteArray} : ∀ (n : Nat), digB s n = true → ∀ k, k < n → 48 ≤ sb s k ∧ sb s k ≤ 57
  | 0, _, k, h => by omega
  | n + 1, hd, k, h => by
    unfold digB at hd
    simp at hd
    by_cases e : k = n
    · subst e; exact hd.2
    · exact digB_at n hd.1 k (by omega)
theorem numV_bd {s : ByteArray} : ∀ (n : Nat), digB s n = true → 0 ≤ numV s n ∧ numV s n < 10 ^ n
  | 0, _ => by simp [numV]
  | n + 1, hd => by
    have h1 := digB_at (n + 1) hd n (by omega)
    have h2 := numV_bd n (by unfold digB at hd; simp at hd; exact hd.1)
    simp only [numV]
    rw [Int.pow_succ]
    omega
end Go.Proofs.YtmommdhnogogdaaGreatDoor

namespace Go.Proofs.YtmommdhnogogdaaGreatDoor
open Go.RowKit

theorem digB_of {s : ByteArray} : ∀ (n : Nat), (∀ k, k < n → 48 ≤ sb s k ∧ sb s k ≤ 57) → digB s n = true
  | 0, _ => rfl
  | n + 1, h => by
    unfold digB
    rw [digB_of n fun k hk => h k (by omega)]
    simp; exact h n (by omega)
theorem numV_app {s u : ByteArray} (p : Nat) : ∀ L, (∀ i, i < L → sb u i = sb s (p + i)) → numV s (p + L) = numV s p * 10 ^ L + numV u L
  | 0, _ => by simp [numV]
  | L + 1, h => by
    have e := numV_app p L fun i hi => h i (by omega)
    rw [← Nat.add_assoc]
    simp only [numV]
    rw [e, h L (by omega), Int.pow_succ]
    grind
end Go.Proofs.YtmommdhnogogdaaGreatDoor
