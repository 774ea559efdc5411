/-
  Texts that the proof leans on, joined: Hld, Npw, Fit.
-/
import Derived.Test.YtplocajjfoiklaaGreatDoorR23
import Derived.Test.YtplocajjfoiklaaGreatDoorR7
import Derived.Test.YtplocajjfoiklaaGreatDoorR10
import Derived.Test.YtplocajjfoiklaaGreatDoorR6
import Derived.Test.YtplocajjfoiklaaGreatDoorR4
import Derived.Test.YtplocajjfoiklaaGreatDoorR3
import Derived.Deep.QuietTactic
import Derived.BigQuiet
set_option maxHeartbeats 8000000
set_option linter.unusedVariables false
set_option linter.unusedSimpArgs false
set_option linter.unusedSectionVars false
set_option maxRecDepth 20000
namespace Go.Proofs.YtplocajjfoiklaaGreatDoor
open Go.RowKit
def numN (n : Int) : Int := if okN n then n else 0
def baseN : Int → Int
 | 1 => 2
 | 2 => 2
 | 3 => 2
 | 4 => 2
 | 5 => 2
 | 6 => 2
 | 7 => 10
 | 8 => 10
 | 9 => 10
 | 10 => 10
 | 11 => 10
 | 12 => 10
 | _ => 0
def widthN : Int → Int
 | 1 => 16
 | 2 => 16
 | 3 => 32
 | 4 => 64
 | 5 => 128
 | 6 => 256
 | 7 => 32
 | 8 => 64
 | 9 => 128
 | 10 => 32
 | 11 => 64
 | 12 => 128
 | _ => 0
def precN : Int → Int
 | 1 => 11
 | 2 => 8
 | 3 => 24
 | 4 => 53
 | 5 => 113
 | 6 => 241
 | 7 => 7
 | 8 => 16
 | 9 => 34
 | 10 => 7
 | 11 => 16
 | 12 => 34
 | _ => 0
def expN : Int → Int
 | 1 => 5
 | 2 => 8
 | 3 => 8
 | 4 => 11
 | 5 => 15
 | 6 => 15
 | 7 => 96
 | 8 => 384
 | 9 => 6144
 | 10 => 96
 | 11 => 384
 | 12 => 6144
 | _ => 0
def leastN : Int → Int
 | 1 => -24
 | 2 => -133
 | 3 => -149
 | 4 => -1074
 | 5 => -16494
 | 6 => -16622
 | 7 => -101
 | 8 => -398
 | 9 => -6176
 | 10 => -101
 | 11 => -398
 | 12 => -6176
 | _ => 0
def mostN : Int → Int
 | 1 => 5
 | 2 => 120
 | 3 => 104
 | 4 => 971
 | 5 => 16271
 | 6 => 16143
 | 7 => 90
 | 8 => 369
 | 9 => 6111
 | 10 => 90
 | 11 => 369
 | 12 => 6111
 | _ => 0
def payN : Int → Int
 | 1 => 9
 | 2 => 6
 | 3 => 22
 | 4 => 51
 | 5 => 111
 | 6 => 239
 | 7 => 6
 | 8 => 15
 | 9 => 33
 | 10 => 6
 | 11 => 15
 | 12 => 33
 | _ => 0
def denseN (n : Int) : Bool := decide (10 ≤ n ∧ n ≤ 12)
def nameN : Int → ByteArray
 | 1 => ⟨#[72, 97, 108, 102]⟩
 | 2 => ⟨#[66, 114, 97, 105, 110]⟩
 | 3 => ⟨#[83, 105, 110, 103, 108, 101]⟩
 | 4 => ⟨#[68, 111, 117, 98, 108, 101]⟩
 | 5 => ⟨#[81, 117, 97, 100]⟩
 | 6 => ⟨#[79, 99, 116, 111]⟩
 | 7 => ⟨#[80, 108, 97, 105, 110, 51, 50]⟩
 | 8 => ⟨#[80, 108, 97, 105, 110, 54, 52]⟩
 | 9 => ⟨#[80, 108, 97, 105, 110, 49, 50, 56]⟩
 | 10 => ⟨#[68, 101, 110, 115, 101, 51, 50]⟩
 | 11 => ⟨#[68, 101, 110, 115, 101, 54, 52]⟩
 | 12 => ⟨#[68, 101, 110, 115, 101, 49, 50, 56]⟩
 | _ => ⟨#[]⟩
theorem fields_none {n : Int} (h : ¬ okN n) : numN n = 0 ∧ nameN n = ⟨#[]⟩ ∧ baseN n = 0 ∧ widthN n = 0 ∧ precN n = 0 ∧ expN n = 0 ∧ leastN n = 0 ∧ mostN n = 0 ∧ payN n = 0 ∧ denseN n = false := by
 refine ⟨if_neg h, ?_, ?_, ?_, ?_, ?_, ?_, ?_, ?_, ?_⟩
 ·unfold nameN okN at *; split <;> first | rfl | omega
 ·unfold baseN okN at *; split <;> first | rfl | omega
 ·unfold widthN okN at *; split <;> first | rfl | omega
 ·unfold precN okN at *; split <;> first | rfl | omega
 ·unfold expN okN at *; split <;> first | rfl | omega
 ·unfold leastN okN at *; split <;> first | rfl | omega
 ·unfold mostN okN at *; split <;> first | rfl | omega
 ·unfold payN okN at *; split <;> first | rfl | omega
 ·unfold denseN okN at *; simp only [decide_eq_false_iff_not]; omega
theorem infoV_eq (n : Int) : infoV n = #[.int .i64 (numN n), .string (nameN n), .int .i64 (baseN n), .int .i64 (widthN n), .int .i64 (precN n), .int .i64 (expN n), .int .i64 (leastN n), .int .i64 (mostN n), .int .i64 (payN n), .bool (denseN n)] := by
 by_cases h : okN n
 ·rcases okN_cases h with rfl | rfl | rfl | rfl | rfl | rfl | rfl | rfl | rfl | rfl | rfl | rfl <;> rfl
 ·obtain ⟨h0, h1, h2, h3, h4, h5, h6, h7, h8, h9⟩ := fields_none h
  rw [infoV_none h, h0, h1, h2, h3, h4, h5, h6, h7, h8, h9]
theorem fields_bounds (n : Int) : (0 ≤ baseN n ∧ baseN n ≤ 10) ∧ (0 ≤ widthN n ∧ widthN n ≤ 256) ∧ (0 ≤ precN n ∧ precN n ≤ 241) ∧ (-17000 ≤ leastN n ∧ leastN n ≤ 0) ∧ (0 ≤ mostN n ∧ mostN n ≤ 17000) := by
 by_cases h : okN n
 ·rcases okN_cases h with rfl | rfl | rfl | rfl | rfl | rfl | rfl | rfl | rfl | rfl | rfl | rfl <;> decide
 ·obtain ⟨h0, h1, h2, h3, h4, h5, h6, h7, h8, h9⟩ := fields_none h
  rw [h2, h3, h4, h6, h7]; decide
theorem ofv_any (n : Int) (w : World) (hT : Tab w) :
  Calls Tryz.prog 32 #[.int .i64 n] w fun e w' => e = .returned (.tuple #[.agg #[.int .i64 (numN n), .string (nameN n), .int .i64 (baseN n), .int .i64 (widthN n), .int .i64 (precN n), .int .i64 (expN n), .int .i64 (leastN n), .int .i64 (mostN n), .int .i64 (payN n), .bool (denseN n)], .int .i64 (infoE n)]) ∧ Below w.heap.size w w' :=
 infoV_eq n ▸ dof_any n w hT
theorem rofv_any (n : Int) (w : World) :
  Calls Tryz.prog 58 #[.int .i64 n] w fun e w' => e = .returned (.tuple #[.agg #[.int .i64 (numN n), .string (nameN n), .int .i64 (baseN n), .int .i64 (widthN n), .int .i64 (precN n), .int .i64 (expN n), .int .i64 (leastN n), .int .i64 (mostN n), .int .i64 (payN n), .bool (denseN n)], .int .i64 (infoE n)]) ∧ Below w.heap.size w w' :=
 infoV_eq n ▸ rof_any n w
def holdsP (f g : Int) : Prop := okN f ∧ okN g ∧ baseN f = baseN g ∧ precN f ≤ precN g ∧ leastN g ≤ leastN f ∧ mostN f + precN f ≤ mostN g + precN g
instance (f g : Int) : Decidable (holdsP f g) := inferInstanceAs (Decidable (_ ∧ _))
theorem val_one1 (c : Int) : val (oneW c) 1 = c := by simp [val, oneW]
theorem pow_half (s : Int) (m : Nat) : s ^ m = (if m % 2 = 1 then s else 1) * (s * s) ^ (m / 2) := by
 have e : (s * s) ^ (m / 2) = s ^ (2 * (m / 2)) := by rw [Int.pow_mul]; congr 1; rw [Int.pow_succ, Int.pow_succ, Int.pow_zero, Int.one_mul]
 rw [e]
 by_cases h : m % 2 = 1
 ·rw [if_pos h, Int.mul_comm, ← Int.pow_succ]; congr 1; omega
 ·rw [if_neg h, Int.one_mul]; congr 1; omega
theorem rpow_any (b : Int) (n : Nat) (w : World) (hb : 0 ≤ b ∧ b ≤ 18446744073709551615) (hn : n ≤ 17000) :
  Calls Tryz.prog 61 #[.int .u64 b, .int .i64 n] w fun e w' => ∃ g k cap z, e = .returned (.slice (some ⟨g, 0, none⟩) k cap) ∧ k ≤ 4 * n + 2 ∧ Num w' (some ⟨g, 0, none⟩) k cap z ∧ val z k = b ^ n ∧ Below w.heap.size w w' := by
 have hN1 := num_one w 1 (by decide)
 have hB1 := below1 w (.cells #[.int .u64 1] 22)
 have hN2 := num_one (w.alloc (.cells #[.int .u64 1] 22)) b hb
 have hB2 := below1 (w.alloc (.cells #[.int .u64 1] 22)) (.cells #[.int .u64 b] 22)
 have hN1' := hN1.next hB2
 have hB := hB1.trans (hB2.mono hB1.size)
 have hs : (w.alloc (.cells #[.int .u64 1] 22)).heap.size = w.heap.size + 1 := by simp
 rw [hs] at hN2
 have HB : Hid (Below w.heap.size w ((w.alloc (.cells #[.int .u64 1] 22)).alloc (.cells #[.int .u64 b] 22))) := hB
 clear hN1 hB1 hB2 hB hs
 go_enter Tryz.func61, Tryz.ntmps61
 go_wp2
 generalize (w.alloc (.cells #[.int .u64 1] 22)).alloc (.cells #[.int .u64 b] 22) = wA at *
 go_loopw [1, 5, 6] (fun nv ov sv wr => ∃ (m P g1 k1 p1 g2 k2 p2 : Nat) (z1 z2 : Nat → Int), nv = .int .i64 m ∧ m ≤ n ∧ 1 ≤ P ∧ m * P ≤ n ∧ P ≤ 2 * n + 1 ∧ ov = .slice (some ⟨g1, 0, none⟩) k1 p1 ∧ sv = .slice (some ⟨g2, 0, none⟩) k2 p2 ∧ k1 + 1 ≤ 2 * P ∧ k2 + 1 ≤ 2 * P ∧ Num wr (some ⟨g1, 0, none⟩) k1 p1 z1 ∧ Num wr (some ⟨g2, 0, none⟩) k2 p2 z2 ∧ Hid (val z1 k1 * val z2 k2 ^ m = b ^ n) ∧ Below w.heap.size w wr) (fun nv _ _ _ => (intOf nv).toNat)
 case atStart => exact ⟨n, 1, w.heap.size, 1, 1, w.heap.size + 1, 1, 1, oneW 1, oneW b, rfl, Nat.le_refl _, Nat.le_refl _, by omega, by omega, rfl, rfl, by omega, by omega, hN1', hN2, by show _ = _; rw [val_one1, val_one1, Int.one_mul], HB.out⟩
 case round =>
  clear hN1' hN2 HB
  obtain ⟨m, P, g1, k1, p1, g2, k2, p2, z1, z2, rfl, hmn, hP, hmP, hP2, rfl, rfl, hk1, hk2, hN1, hN2, hv, hB⟩ := hrel
  by_cases h0 : m = 0
  ·subst h0
   have HV : Hid (val z1 k1 = b ^ n) := by show _ = _; have := hv.out; simpa using this
   have HN1 : Hid (Num wr (some ⟨g1, 0, none⟩) k1 p1 z1) := hN1
   clear hN1 hN2 hv
   go_wp2
   go_ret
   exact ⟨g1, k1, p1, z1, rfl, by omega, HN1.out, HV.out, hB⟩
  ·have hm0 : (0 : Int) < m := by omega
   have hPn : P ≤ n := by
    have : 1 * P ≤ m * P := Nat.mul_le_mul_right P (by omega)
    omega
   have hq2 : (m : Int) / 2 = ((m / 2 : Nat) : Int) := by omega
   have hr2 : (m : Int) % 2 = ((m % 2 : Nat) : Int) := by omega
   have hmP' : m / 2 * (2 * P) ≤ n := by
    have h1 : m / 2 * 2 ≤ m := Nat.div_mul_le_self m 2
    have h2 : m / 2 * 2 * P ≤ m * P := Nat.mul_le_mul_right P h1
    rw [← Nat.mul_assoc]; omega
   have HPH : Hid (val z2 k2 ^ m = (if m % 2 = 1 then val z2 k2 else 1) * (val z2 k2 * val z2 k2) ^ (m / 2)) := pow_half _ _
   have tt := fun wr (hb : Below w.heap.size w wr) h1 h2 => times_val g1 0 k1 p1 g2 0 k2 p2 z1 z2 wr (by omega) (by omega) h1 h2
   have ts := fun wr (hb : Below w.heap.size w wr) h2 => times_val g2 0 k2 p2 g2 0 k2 p2 z2 z2 wr (by omega) (by omega) h2 h2
   generalize hq : m / 2 = q at *
   by_cases hodd : m % 2 = 1
   ·rw [hodd] at hr2
    rw [if_pos hodd] at HPH
    have t1 := tt wr hB hN1 hN2
    by_cases hq0 : q = 0
    ·subst hq0
     have hq00 : (m : Int) / 2 = 0 := hq2
     clear hq2
     go_wp2_with (go_at_call 122; refine t1.mono ?_; rintro e w1 ⟨g3, k3, p3, z3, rfl, hk3, hN3, hv3, hb1⟩; clear tt t1)
     have HV3 : Hid (val z3 k3 * val z2 k2 ^ 0 = b ^ n) := by
      show _ = _
      rw [hv3, ← hv.out, HPH.out]; simp
     have HN3 : Hid (Num w1 (some ⟨g3, 0, none⟩) k3 p3 z3) := hN3
     have HN2 : Hid (Num w1 (some ⟨g2, 0, none⟩) k2 p2 z2) := hN2.next hb1
     have hB1 := hB.trans (hb1.mono hB.size)
     clear hN1 hN2 hN3 hv hv3 ts
     go_roundw
     case rel => exact ⟨0, 2 * P, g3, k3, p3, g2, k2, p2, z3, z2, rfl, by omega, by omega, by omega, by omega, rfl, rfl, by omega, by omega, HN3.out, HN2.out, HV3, hB1⟩
     case measure => simp [intOf]; omega
    ·have hq0' : (0 : Int) < q := by omega
     go_wp2_with (go_at_call 122; refine t1.mono ?_; rintro e w1 ⟨g3, k3, p3, z3, rfl, hk3, hN3, hv3, hb1⟩; clear tt t1)
     have hB1 := hB.trans (hb1.mono hB.size)
     have hN21 := hN2.next hb1
     have t2 := ts w1 hB1 hN21
     go_wp2_with (go_at_call 122; refine t2.mono ?_; rintro e w2 ⟨g4, k4, p4, z4, rfl, hk4, hN4, hv4, hb2⟩; clear ts t2)
     have HV3 : Hid (val z3 k3 * val z4 k4 ^ q = b ^ n) := by
      show _ = _
      rw [hv3, hv4, ← hv.out, HPH.out, Int.mul_assoc]
     have HN3 : Hid (Num w2 (some ⟨g3, 0, none⟩) k3 p3 z3) := hN3.next hb2
     have HN4 : Hid (Num w2 (some ⟨g4, 0, none⟩) k4 p4 z4) := hN4
     have hB2 := hB1.trans (hb2.mono hB1.size)
     clear hN1 hN2 hN3 hN21 hN4 hv hv3 hv4
     go_roundw
     case rel => exact ⟨q, 2 * P, g3, k3, p3, g4, k4, p4, z3, z4, rfl, by omega, by omega, by omega, by omega, rfl, rfl, by omega, by omega, HN3.out, HN4.out, HV3, hB2⟩
     case measure => simp [intOf]; omega
   ·have h20 : m % 2 = 0 := by omega
    rw [h20] at hr2
    rw [if_neg hodd, Int.one_mul] at HPH
    have hq0' : (0 : Int) < q := by omega
    have t2 := ts wr hB hN2
    go_wp2_with (go_at_call 122; refine t2.mono ?_; rintro e w2 ⟨g4, k4, p4, z4, rfl, hk4, hN4, hv4, hb2⟩; clear ts tt t2)
    have HV3 : Hid (val z1 k1 * val z4 k4 ^ q = b ^ n) := by
     show _ = _
     rw [hv4, ← hv.out, HPH.out]
    have HN3 : Hid (Num w2 (some ⟨g1, 0, none⟩) k1 p1 z1) := hN1.next hb2
    have HN4 : Hid (Num w2 (some ⟨g4, 0, none⟩) k4 p4 z4) := hN4
    have hB2 := hB.trans (hb2.mono hB.size)
    clear hN1 hN2 hN4 hv hv4
    go_roundw
    case rel => exact ⟨q, 2 * P, g1, k1, p1, g4, k4, p4, z1, z4, rfl, by omega, by omega, by omega, by omega, rfl, rfl, by omega, by omega, HN3.out, HN4.out, HV3, hB2⟩
    case measure => simp [intOf]; omega
def fitsP (n : Int) (x : Nat → Int) : Prop := okN n ∧ lenL (lowW x 4) 4 ≤ widthN n
instance (n : Int) (x : Nat → Int) : Decidable (fitsP n x) := inferInstanceAs (Decidable (_ ∧ _))
theorem box_num {w0 w : World} {ax : Array Value} {t : TypeId} {x : Nat → Int} (hx : Words x) (hax : ∀ i, i < 4 → ax[i]? = some (.int .u64 (x i))) (hb : Below (w0.alloc (.cells ax t)).heap.size (w0.alloc (.cells ax t)) w) :
  Num w (some ⟨w0.heap.size, 0, none⟩) 4 4 (lowW x 4) :=
 ((HasN.of_alloc w0 ax t 4 x hax).next hb).num hx (Nat.le_refl _) (Nat.le_refl _) (by unfold maxLen; omega)
theorem below_drewF {B : Nat} {a w : World} {m : Nat} (h : Below B a w) : Below B a (w.drewN m) := ⟨h.os, h.tape, h.output, h.size, h.block⟩
theorem num_drewN {w : World} {a : Option Addr} {n c : Nat} {x : Nat → Int} (h : Num w a n c x) (m : Nat) : Num (w.drewN m) a n c x := h
theorem fits_any (n : Int) (x : Nat → Int) (hx : Words x) (ax : Array Value) (hax : ∀ i, i < 4 → ax[i]? = some (.int .u64 (x i))) (hs : ax.size = 4) (w : World) (hT : Tab w) :
  Calls Tryz.prog 108 #[.int .i64 n, .agg ax] w fun e w' => e = .returned (.bool (decide (fitsP n x))) ∧ Below w.heap.size w w' := by
 have c1 := fun w hT => ofv_any n w hT
 have f1 := fields_bounds n
 by_cases hn : okN n
 ·have hE : infoE n = 0 := if_pos hn
  rw [hE] at c1
  have hd : decide (fitsP n x) = decide (lenL (lowW x 4) 4 ≤ widthN n) := by unfold fitsP; simp [hn]
  go_enter Tryz.func108, Tryz.ntmps108
  go_wp2_with (go_at_call 32; refine (c1 _ (hT.alloc _)).mono ?_; rintro e w1 ⟨rfl, hb⟩)
  have hN := ((box_num hx hax hb).next (below1' w1 (.cells #[.int .i64 (numN n), .string (nameN n), .int .i64 (baseN n), .int .i64 (widthN n), .int .i64 (precN n), .int .i64 (expN n), .int .i64 (leastN n), .int .i64 (mostN n), .int .i64 (payN n), .bool (denseN n)] 55)))
  have cl := fun m => (nlen_any _ _ _ _ _ (by decide) (num_drewN hN m)).mono (fun e w' h => (⟨h.1, h.2.symm⟩ : e = .returned (.int .i64 (lenL (lowW x 4) 4)) ∧ w' = _))
  clear hN
  go_quiet ((go_at_call 77; exact Calls.quiet_of_same (cl _)))
  all_goals
   go_wp2
   go_ret
   refine ⟨?_, below_drewF (((below1' w _).trans (hb.mono (below1' w _).size)).alloc (Nat.le_trans (below1' w _).size hb.size) _)⟩
   rw [hd]
   rfl
 ·have hE : infoE n = 1 := if_neg hn
  rw [hE] at c1
  have hd : decide (fitsP n x) = false := decide_eq_false fun h => hn h.1
  rw [hd]
  go_enter Tryz.func108, Tryz.ntmps108
  go_wp2_with (go_at_call 32; refine (c1 _ (hT.alloc _)).mono ?_; rintro e w1 ⟨rfl, hb⟩)
  go_quiet (fail)
  all_goals
   go_wp2
   go_ret
   exact ⟨rfl, below_drewF (((below1' w _).trans (hb.mono (below1' w _).size)).alloc (Nat.le_trans (below1' w _).size hb.size) _)⟩
end Go.Proofs.YtplocajjfoiklaaGreatDoor
