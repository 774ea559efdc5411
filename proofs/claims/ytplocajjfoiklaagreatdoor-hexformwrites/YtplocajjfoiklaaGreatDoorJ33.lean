/-
  Texts that the proof leans on, joined: Me, Wc, Ri, Rv, Lr, Wf, Lai, Xf, Xr, Xs.
-/
import Derived.Test.YtplocajjfoiklaaGreatDoorJ27
import Derived.Test.YtplocajjfoiklaaGreatDoorJ32
import Derived.Test.YtplocajjfoiklaaGreatDoorJ1
import Derived.Deep.Cut
import Derived.Deep.CutRange
import Derived.Test.YtplocajjfoiklaaGreatDoorJ31
import Derived.Test.YtplocajjfoiklaaGreatDoorJ22
import Derived.Test.YtplocajjfoiklaaGreatDoorJ25
import Derived.Deep.RegionWith
import Derived.Test.YtplocajjfoiklaaGreatDoorJ26
import Derived.Test.YtplocajjfoiklaaGreatDoorJ21
import Derived.Test.YtplocajjfoiklaaGreatDoorJ17
import Derived.Lib.SmallJoins
import Derived.Test.YtplocajjfoiklaaGreatDoorJ30
set_option linter.unusedVariables false
set_option linter.unusedSectionVars false
set_option linter.unusedSimpArgs false
set_option maxRecDepth 20000
namespace Go.Proofs.YtplocajjfoiklaaGreatDoor
open Go.RowKit

/-- an exponent with its sign ahead -/
def sgE (e : Int) : List UInt8 := (if 0 ≤ e then [43] else []) ++ Lib.itoa e
set_option maxHeartbeats 2000000 in
theorem signed_v (e : Int) (w : World) (hT10 : Tb10 w) (he : -100000 ≤ e ∧ e ≤ 100000) : Calls Tryz.prog 57 #[.int .i64 e] w fun r w' => r = .returned (.string (B (sgE e))) ∧ Below w.heap.size w w' := by
  have hi := itoa_short he
  have c53 := fun W (h : Tb10 W) => itoa_any e W (by omega) h
  have htl := B_toList
  unfold sgE
  have p0 : (⟨#[43]⟩ : ByteArray) ++ B (Lib.itoa e) = B ([43] ++ Lib.itoa e) := B_app [43] _
  obtain ⟨il, hil⟩ : ∃ il, (Lib.itoa e).length = il := ⟨_, rfl⟩
  have z2 : (B (Lib.itoa e)).size = il := by rw [B_size]; exact hil
  have hil2 : il ≤ 100 := by omega
  clear hi hil
  generalize Lib.itoa e = I at *
  by_cases h : 0 ≤ e
  · rw [if_pos h]
    generalize hL1 : [43] ++ I = L1 at *
    clear hL1
    go_enter Tryz.func57, Tryz.ntmps57
    go_wp2_with (go_at_call 31; refine (c53 _ hT10).mono ?_; rintro r w3 ⟨rfl, hb3⟩)
    go_ret
    exact ⟨rfl, hb3⟩
  · rw [if_neg h, List.nil_append]
    have h' : e < 0 := by omega
    go_enter Tryz.func57, Tryz.ntmps57
    go_wp2_with (go_at_call 31; refine (c53 _ hT10).mono ?_; rintro r w3 ⟨rfl, hb3⟩)
    go_ret
    exact ⟨rfl, hb3⟩
attribute [local irreducible] W4
set_option maxHeartbeats 2000000 in
theorem hun_z (x : Int) (w : World) : Calls Tryz.prog 23 #[A4 0, .int .i64 x] w fun r w' => r = .returned (.string (B hbZ)) ∧ Below w.heap.size w w' := by
  have c55 := fun W => len4' 0 W
  rw [lenL_bl (A := 0) (by decide), show bl 0 = 0 from bl_zero.2 rfl] at c55
  have hz : B hbZ = ⟨#[48, 120, 48, 112, 43, 48]⟩ := rfl
  rw [hz]
  go_enter Tryz.func23, Tryz.ntmps23
  go_wp2_with (go_at_call 55; refine (c55 _).mono ?_; rintro r w1 ⟨rfl, hb1⟩; obtain ⟨hc1, hf1⟩ := bcell hb1; have hz1_0 : w.heap.size < w1.heap.size := lt_below hb1 ltg; have hl1_0 := Nat.le_of_lt hz1_0; have hA1 := bnext (w0 := w) bgo hb1; have hs1 := hA1.size; clear hb1)
  go_ret
  exact ⟨rfl, bgo⟩
section
variable {k : Nat} (x : Int) (w : World) (hT : TbZ w) (hT10 : Tb10 w) (hk0 : k ≠ 0) (hk : bl k ≤ 241) (hx : -40000 ≤ x ∧ x ≤ 40000)
include hT hT10 hk0 hk hx
set_option maxHeartbeats 4000000 in
theorem hun_n (hD : hbD k = []) : Calls Tryz.prog 23 #[A4 k, .int .i64 x] w fun r w' => r = .returned (.string (B (hbT k x))) ∧ Below w.heap.size w w' := by
  have hA : k < 2 ^ 256 := bl_le.1 (by omega)
  have hn1 : bl k ≠ 0 := fun e => hk0 (bl_zero.1 e)
  have c55 := fun W => len4' k W
  rw [lenL_bl hA] at c55
  have c56 := fun W h => bh_v hk0 hk W h
  rw [hD, B_nil] at c56
  have HT : Hid (hbT k x = ([48, 120, 49] ++ [112]) ++ sgE (bl k - 1 + x)) := by
    show _ = _
    unfold hbT sgE
    rw [if_pos hD, show x + bl k - 1 = (bl k : Int) - 1 + x by omega]
    simp
  obtain ⟨n, hn⟩ : ∃ n, bl k = n := ⟨_, rfl⟩
  rw [hn] at hk hn1 c55 HT
  have hnb : 1 ≤ (n : Int) ∧ (n : Int) ≤ 241 := by omega
  have hne : ((n : Int) == 0) = false := by rw [beq_eq_false_iff_ne]; omega
  have c57 := fun W h => signed_v ((n : Int) - 1 + x) W h (by omega)
  have zs : (B (sgE ((n : Int) - 1 + x))).size ≤ 200 := by
    rw [B_size]
    unfold sgE
    have hi := itoa_short (e := (n : Int) - 1 + x) (by omega)
    rw [List.length_append]
    split <;> simp <;> omega
  generalize hs : sgE ((n : Int) - 1 + x) = sg at *
  have p0 : (⟨#[48, 120, 49]⟩ : ByteArray) ++ (⟨#[112]⟩ : ByteArray) = B ([48, 120, 49] ++ [112]) := B_app [48, 120, 49] [112]
  have z0 : (B ([48, 120, 49] ++ [112])).size = 4 := rfl
  have p1 : B ([48, 120, 49] ++ [112]) ++ B sg = B (([48, 120, 49] ++ [112]) ++ sg) := B_app _ _
  generalize hL : ([48, 120, 49] ++ [112]) ++ sg = L at *
  generalize hL0 : ([48, 120, 49] ++ [112] : List UInt8) = L0 at *
  obtain ⟨zn, hzn⟩ : ∃ zn, (B sg).size = zn := ⟨_, rfl⟩
  rw [hzn] at zs
  clear hL hL0 hs hD hn hk0 hk hA
  go_enter Tryz.func23, Tryz.ntmps23
  go_wp2_with (first
    | (have hh := hA2; go_at_call 55; refine (c55 _).mono ?_; rintro r w3 ⟨rfl, hb3⟩; obtain ⟨hc3, hf3⟩ := bcell hb3; have hz3_0 : w.heap.size < w3.heap.size := lt_below hb3 ltg; have hl3_0 := Nat.le_of_lt hz3_0; have hA3 := bnext (w0 := w) bgo hb3; have hs3 := hA3.size; clear hb3)
    | (go_at_call 55; refine (c55 _).mono ?_; rintro r w1 ⟨rfl, hb1⟩; obtain ⟨hc1, hf1⟩ := bcell hb1; have hz1_0 : w.heap.size < w1.heap.size := lt_below hb1 ltg; have hl1_0 := Nat.le_of_lt hz1_0; have hA1 := bnext (w0 := w) bgo hb1; have hs1 := hA1.size; clear hb1)
    | (go_at_call 56; refine (c56 _ (hT.next hA1)).mono ?_; rintro r w2 ⟨rfl, hb2⟩; obtain ⟨hc2, hf2⟩ := bcell hb2; have hz2_0 : w.heap.size < w2.heap.size := lt_below hb2 ltg; have hl2_0 := Nat.le_of_lt hz2_0; have hA2 := bnext (w0 := w) bgo hb2; have hs2 := hA2.size; clear hb2)
    | (go_at_call 57; refine (c57 _ (hT10.next hA3)).mono ?_; rintro r w4 ⟨rfl, hb4⟩; obtain ⟨hc4, hf4⟩ := bcell hb4; have hz4_0 : w.heap.size < w4.heap.size := lt_below hb4 ltg; have hl4_0 := Nat.le_of_lt hz4_0; have hA4 := bnext (w0 := w) bgo hb4; have hs4 := hA4.size; clear hb4))
  go_ret
  exact ⟨by rw [HT.out]; rfl, bgo⟩
set_option maxHeartbeats 4000000 in
theorem hun_d (hD : hbD k ≠ []) : Calls Tryz.prog 23 #[A4 k, .int .i64 x] w fun r w' => r = .returned (.string (B (hbT k x))) ∧ Below w.heap.size w w' := by
  have hA : k < 2 ^ 256 := bl_le.1 (by omega)
  have hn1 : bl k ≠ 0 := fun e => hk0 (bl_zero.1 e)
  have c55 := fun W => len4' k W
  rw [lenL_bl hA] at c55
  have c56 := fun W h => bh_v hk0 hk W h
  have hdl : (hbD k).length ≤ 60 := by
    have := (hbD_facts k).2.1
    unfold hbC at this
    omega
  have HT : Hid (hbT k x = (([48, 120, 49] ++ ([46] ++ hbD k)) ++ [112]) ++ sgE (bl k - 1 + x)) := by
    show _ = _
    unfold hbT sgE
    rw [if_neg hD, show x + bl k - 1 = (bl k : Int) - 1 + x by omega]
    simp
  obtain ⟨n, hn⟩ : ∃ n, bl k = n := ⟨_, rfl⟩
  rw [hn] at hk hn1 c55 HT
  have hnb : 1 ≤ (n : Int) ∧ (n : Int) ≤ 241 := by omega
  have hne : ((n : Int) == 0) = false := by rw [beq_eq_false_iff_ne]; omega
  have c57 := fun W h => signed_v ((n : Int) - 1 + x) W h (by omega)
  have zs : (B (sgE ((n : Int) - 1 + x))).size ≤ 200 := by
    rw [B_size]
    unfold sgE
    have hi := itoa_short (e := (n : Int) - 1 + x) (by omega)
    rw [List.length_append]
    split <;> simp <;> omega
  generalize hs : sgE ((n : Int) - 1 + x) = sg at *
  have htl := B_toList
  generalize hDD : hbD k = D at *
  have hemp : D.isEmpty = false := by cases D with | nil => exact absurd rfl hD | cons y ys => rfl
  have hzd : (B D).size = D.length := B_size D
  have p0 : (⟨#[46]⟩ : ByteArray) ++ B D = B ([46] ++ D) := B_app [46] _
  have z0 : (B ([46] ++ D)).size = D.length + 1 := by rw [B_size, List.length_append]; simp; omega
  have p1 : (⟨#[48, 120, 49]⟩ : ByteArray) ++ B ([46] ++ D) = B ([48, 120, 49] ++ ([46] ++ D)) := B_app [48, 120, 49] _
  have z1 : (B ([48, 120, 49] ++ ([46] ++ D))).size = D.length + 4 := by rw [B_size, List.length_append, List.length_append]; simp; omega
  have p2 : B ([48, 120, 49] ++ ([46] ++ D)) ++ (⟨#[112]⟩ : ByteArray) = B (([48, 120, 49] ++ ([46] ++ D)) ++ [112]) := B_app _ [112]
  have z2 : (B (([48, 120, 49] ++ ([46] ++ D)) ++ [112])).size = D.length + 5 := by rw [B_size, List.length_append, List.length_append, List.length_append]; simp; omega
  have p3 : B (([48, 120, 49] ++ ([46] ++ D)) ++ [112]) ++ B sg = B ((([48, 120, 49] ++ ([46] ++ D)) ++ [112]) ++ sg) := B_app _ _
  obtain ⟨zn, hzn⟩ : ∃ zn, (B sg).size = zn := ⟨_, rfl⟩
  rw [hzn] at zs
  obtain ⟨dl, hdn⟩ : ∃ dl, D.length = dl := ⟨_, rfl⟩
  rw [hdn] at hdl hzd z0 z1 z2
  generalize hL3 : (([48, 120, 49] ++ ([46] ++ D)) ++ [112]) ++ sg = L3 at *
  generalize hL2 : ([48, 120, 49] ++ ([46] ++ D)) ++ [112] = L2 at *
  generalize hL1 : [48, 120, 49] ++ ([46] ++ D) = L1 at *
  generalize hL0 : [46] ++ D = L0 at *
  clear hL0 hL1 hL2 hL3 hs hD hn hk0 hk hA hDD hdn
  go_enter Tryz.func23, Tryz.ntmps23
  go_wp2_with (first
    | (have hh := hA2; go_at_call 55; refine (c55 _).mono ?_; rintro r w3 ⟨rfl, hb3⟩; obtain ⟨hc3, hf3⟩ := bcell hb3; have hz3_0 : w.heap.size < w3.heap.size := lt_below hb3 ltg; have hl3_0 := Nat.le_of_lt hz3_0; have hA3 := bnext (w0 := w) bgo hb3; have hs3 := hA3.size; clear hb3)
    | (go_at_call 55; refine (c55 _).mono ?_; rintro r w1 ⟨rfl, hb1⟩; obtain ⟨hc1, hf1⟩ := bcell hb1; have hz1_0 : w.heap.size < w1.heap.size := lt_below hb1 ltg; have hl1_0 := Nat.le_of_lt hz1_0; have hA1 := bnext (w0 := w) bgo hb1; have hs1 := hA1.size; clear hb1)
    | (go_at_call 56; refine (c56 _ (hT.next hA1)).mono ?_; rintro r w2 ⟨rfl, hb2⟩; obtain ⟨hc2, hf2⟩ := bcell hb2; have hz2_0 : w.heap.size < w2.heap.size := lt_below hb2 ltg; have hl2_0 := Nat.le_of_lt hz2_0; have hA2 := bnext (w0 := w) bgo hb2; have hs2 := hA2.size; clear hb2)
    | (go_at_call 57; refine (c57 _ (hT10.next hA3)).mono ?_; rintro r w4 ⟨rfl, hb4⟩; obtain ⟨hc4, hf4⟩ := bcell hb4; have hz4_0 : w.heap.size < w4.heap.size := lt_below hb4 ltg; have hl4_0 := Nat.le_of_lt hz4_0; have hA4 := bnext (w0 := w) bgo hb4; have hs4 := hA4.size; clear hb4))
  go_ret
  exact ⟨by rw [HT.out]; rfl, bgo⟩
end
/-- the text of a finite number, but for its sign -/
def hwT (k : Nat) (x : Int) : List UInt8 := if k = 0 then hbZ else hbT k x
theorem hun_v {k : Nat} (x : Int) (w : World) (hT : TbZ w) (hT10 : Tb10 w) (hk : bl k ≤ 241) (hx : -40000 ≤ x ∧ x ≤ 40000) : Calls Tryz.prog 23 #[A4 k, .int .i64 x] w fun r w' => r = .returned (.string (B (hwT k x))) ∧ Below w.heap.size w w' := by
  unfold hwT
  by_cases h0 : k = 0
  · subst h0
    rw [if_pos rfl]
    exact hun_z x w
  · rw [if_neg h0]
    by_cases hD : hbD k = []
    · exact hun_n x w hT hT10 h0 hk hx hD
    · exact hun_d x w hT hT10 h0 hk hx hD
end Go.Proofs.YtplocajjfoiklaaGreatDoor

namespace Go.Proofs.YtplocajjfoiklaaGreatDoor
open Go.RowKit

theorem val_odd {z : Nat → Int} {k V : Nat} (hk : 0 < k) (hv : val z k = (V : Int)) : (V : Int) % 2 = z 0 % 2 := by
  have key : ∀ j, val z (j + 1) % 2 = z 0 % 2 := by
    intro j
    induction j with
    | zero => simp [val]
    | succ j ih =>
      have : val z (j + 1 + 1) = val z (j + 1) + z (j + 1) * 18446744073709551616 ^ (j + 1) := rfl
      rw [this, Int.pow_succ, show z (j + 1) * (18446744073709551616 ^ j * 18446744073709551616) = 2 * (z (j + 1) * 18446744073709551616 ^ j * 9223372036854775808) by grind, Int.add_mul_emod_self_left]
      exact ih
  obtain ⟨j, rfl⟩ : ∃ j, k = j + 1 := ⟨k - 1, by omega⟩
  rw [← hv]; exact key j
attribute [local irreducible] NV NT
section
variable (d hv : Int) (s odd : Bool) (va vb : Value) (Q : Nat) (w : World)
  (c99 : Calls Tryz.prog 156 #[va, vb] w fun e w1 => ∃ q g k cap, e = .returned (.tuple #[q, .slice (some ⟨g, 0, none⟩) k cap]) ∧ k ≠ 0 ∧ NV 41000 Q q w1 ∧ Below w.heap.size w w1 ∧ Calls Tryz.prog 28 #[.slice (some ⟨g, 0, none⟩) k cap, .int .i64 1] w1 fun e w2 => ∃ r2, e = .returned r2 ∧ Below w1.heap.size w1 w2 ∧ Calls Tryz.prog 154 #[r2, vb] w2 fun e w3 => e = .returned (.int .i64 hv) ∧ w2 = w3)
  (c100 : ∀ W q, NV 41000 Q q W → Calls Tryz.prog 157 #[q] W fun e w' => e = .returned (.bool odd) ∧ W = w')
  (c24 : ∀ W q v, NV 41000 Q q W → NV 1 1 v W → Calls Tryz.prog 44 #[q, v] W fun e w' => ∃ r, e = .returned r ∧ NV 41002 (Q + 1) r w' ∧ Below W.heap.size W w')
include c99 c100 c24
end
end Go.Proofs.YtplocajjfoiklaaGreatDoor

namespace Go.Proofs.YtplocajjfoiklaaGreatDoor
open Go.RowKit
attribute [local irreducible] W4

abbrev IV (n : Int) (nm : ByteArray) (wd : Int) (f e : Nat) (l m : Int) : Value := .agg #[.int .i64 n, .string nm, .int .i64 2, .int .i64 wd, .int .i64 ((f : Int) + 1), .int .i64 e, .int .i64 l, .int .i64 m, .int .i64 ((f : Int) - 1), .bool false]
section
variable (n : Int) (nm : ByteArray) (wd : Int) (f e : Nat) (l m : Int) (c x : Int) (s g : Bool) (k : Nat) (L : Int) (w : World) (hf : 2 ≤ f ∧ f ≤ 240)
  (c38 : ∀ W, Num W (some ⟨w.heap.size + 1, 4, none⟩) 4 4 (lowW (W4 k) 4) → Calls Tryz.prog 26 #[.slice (some ⟨w.heap.size + 1, 4, none⟩) 4 4] W fun e w' => e = .returned (.int .i64 L) ∧ W = w')
include hf c38
end
end Go.Proofs.YtplocajjfoiklaaGreatDoor

namespace Go.Proofs.YtplocajjfoiklaaGreatDoor
open Go.RowKit
attribute [local irreducible] W4 NT NV
section
variable (n : Int) (B : Nat) (f e Fr En S : Nat) (l m pay wd : Int) (nm : ByteArray) (w : World) (hf : 2 ≤ f ∧ f ≤ 240) (he : e ≤ 15) (hEn : En < 9223372036854775808) (hS9 : S < 9223372036854775808)
  (c24 : ∀ w, Calls Tryz.prog 13 #[.int .i64 n, A4 B] w fun x w' => x = .returned (.bool true) ∧ Below w.heap.size w w')
  (c25 : ∀ w, Calls Tryz.prog 58 #[.int .i64 n] w fun x w' => x = .returned (.tuple #[.agg #[.int .i64 n, .string nm, .int .i64 2, .int .i64 wd, .int .i64 ((f : Int) + 1), .int .i64 e, .int .i64 l, .int .i64 m, .int .i64 pay, .bool false], .int .i64 0]) ∧ Below w.heap.size w w')
  (c0 : ∀ w, Calls Tryz.prog 27 #[A4 B, .int .i64 0, .int .i64 f] w fun x w' => ∃ r, x = .returned r ∧ NT 19 Fr r w' ∧ Below w.heap.size w w')
  (c1 : ∀ w, Calls Tryz.prog 27 #[A4 B, .int .i64 f, .int .i64 e] w fun x w' => ∃ r, x = .returned r ∧ NT 19 En r w' ∧ Below w.heap.size w w')
  (c26 : ∀ w, Calls Tryz.prog 27 #[A4 B, .int .i64 ((f : Int) + e), .int .i64 1] w fun x w' => ∃ r, x = .returned r ∧ NT 19 S r w' ∧ Below w.heap.size w w')
include hf he hEn hS9 c24 c25 c0 c1 c26
set_option maxHeartbeats 2000000 in
theorem runpack_norm (hE : ((En : Int) == 2 ^ e - 1) = false) (h0 : ((En : Int) == 0) = false) (hl : -1000000 ≤ l ∧ l ≤ 0) (hEb : (En : Int) ≤ 32768) (Pw : Nat)
  (c30 : ∀ w, Calls Tryz.prog 61 #[.int .u64 2, .int .i64 f] w fun x w' => ∃ r, x = .returned r ∧ NV 50000 Pw r w' ∧ Below w.heap.size w w') :
    Calls Tryz.prog 24 #[.int .i64 n, A4 B] w fun x w' => x = .returned (.tuple #[.agg #[.int .i64 1, .bool ((S : Int) == 1), .bool false, .int .i64 (l - 1 + En), .int .u64 (W4 (Fr + Pw) 0), .int .u64 (W4 (Fr + Pw) 1), .int .u64 (W4 (Fr + Pw) 2), .int .u64 (W4 (Fr + Pw) 3)], .int .i64 0]) ∧ Below w.heap.size w w' := by
  go_enter Tryz.func24, Tryz.ntmps24
  go_wp2_with (first
    | (go_at_call 13; refine (c24 _).mono ?_; rintro x w1 ⟨rfl, hb1⟩; obtain ⟨hc1, hf1⟩ := bcell hb1; have hz1_0 : w.heap.size < w1.heap.size := lt_below hb1 ltg; have hl1_0 := Nat.le_of_lt hz1_0; have hz1_1 : w.heap.size + 1 < w1.heap.size := lt_below hb1 ltg; have hl1_1 := Nat.le_of_lt hz1_1; have hA1 := bnext (w0 := w) bgo hb1; have hs1 := hA1.size; clear hb1)
    | (go_at_call 58; refine (c25 _).mono ?_; rintro x w2 ⟨rfl, hb2⟩; obtain ⟨hc2, hf2⟩ := bcell hb2; have hz2_0 : w.heap.size < w2.heap.size := lt_below hb2 ltg; have hl2_0 := Nat.le_of_lt hz2_0; have hz2_1 : w.heap.size + 1 < w2.heap.size := lt_below hb2 ltg; have hl2_1 := Nat.le_of_lt hz2_1; have hA2 := bnext (w0 := w) bgo hb2; have hs2 := hA2.size; clear hb2))
  have k0 : w2.cell? ⟨w.heap.size, 0, none⟩ = some (.int .u64 (W4 B 0)) := (by go_simp)
  have k1 : w2.cell? ⟨w.heap.size, 1, none⟩ = some (.int .u64 (W4 B 1)) := (by go_simp)
  have k2 : w2.cell? ⟨w.heap.size, 2, none⟩ = some (.int .u64 (W4 B 2)) := (by go_simp)
  have k3 : w2.cell? ⟨w.heap.size, 3, none⟩ = some (.int .u64 (W4 B 3)) := (by go_simp)
  refine reg5 (gb := w.heap.size) (gi := w2.heap.size) (f := f) (e := e) (B := B) c0 c1 hEn rfl rfl rfl rfl (by simp; omega) (by simp) (fun i hi => ?_) (by go_simp) ?_
  · have : i = 0 ∨ i = 1 ∨ i = 2 ∨ i = 3 := by omega
    rcases this with rfl | rfl | rfl | rfl <;> go_simp
  intro a w3 v hv h9 h10 hsz hdf hF hb3
  have ha := act_of slots5 11 rfl hsz hdf hF
  rw [ha]
  simp only [slots5, List.foldl_cons, List.foldl_nil, Act.put, List.setIfInBounds_toArray, List.set_cons_succ, List.set_cons_zero, h9, h10]
  generalize slot a 25 = s25
  generalize slot a 26 = s26
  generalize slot a 27 = s27
  generalize slot a 28 = s28
  generalize slot a 29 = s29
  generalize slot a 30 = s30
  generalize slot a 31 = s31
  generalize slot a 32 = s32
  generalize slot a 33 = s33
  clear ha hF hsz hdf h9 h10 a
  obtain ⟨hc3, hf3⟩ := bcell hb3; have hz3_0 : w.heap.size < w3.heap.size := lt_below hb3 ltg; have hl3_0 := Nat.le_of_lt hz3_0; have hz3_1 : w.heap.size + 1 < w3.heap.size := lt_below hb3 ltg; have hl3_1 := Nat.le_of_lt hz3_1; have hz3_2 : w2.heap.size < w3.heap.size := lt_below hb3 ltg; have hl3_2 := Nat.le_of_lt hz3_2; have hA3 := bnext (w0 := w) bgo hb3; have hs3 := hA3.size; clear hb3
  obtain ⟨gv, kv, cv, rfl, hkv, hkz⟩ := hv.zero
  have hp := pow_e' he
  have hE0 : (0 : Int) ≤ En := by omega
  clear hkz hkv k0 k1 k2 k3 c0 c1
  have hsm := cell_set_map
  go_wp2_with (first
    | (go_at_call 27; refine (c26 _).mono ?_; rintro x w4 ⟨v4, rfl, hn4, hb4⟩; replace hv := hv.next hb4; obtain ⟨hc4, hf4⟩ := bcell hb4; have hz4_0 : w.heap.size < w4.heap.size := lt_below hb4 ltg; have hl4_0 := Nat.le_of_lt hz4_0; have hz4_1 : w.heap.size + 1 < w4.heap.size := lt_below hb4 ltg; have hl4_1 := Nat.le_of_lt hz4_1; have hz4_2 : w2.heap.size < w4.heap.size := lt_below hb4 ltg; have hl4_2 := Nat.le_of_lt hz4_2; have hA4 := bnext (w0 := w) bgo hb4; have hs4 := hA4.size; clear hb4)
    | (go_at_call 59; refine (number_nv hn4.nv (by decide) hS9).mono ?_; rintro x w5 ⟨rfl, rfl⟩))
  go_region_with (first
    | (go_at_call 61; refine (c30 _).mono ?_; rintro x w6 ⟨v6, rfl, hn6, hb6⟩; replace hv := hv.next (bnext bgo hb6); obtain ⟨hc6, hf6⟩ := bcell hb6; have hz6_0 : w.heap.size < w6.heap.size := lt_below hb6 ltg; have hl6_0 := Nat.le_of_lt hz6_0; have hz6_1 : w.heap.size + 1 < w6.heap.size := lt_below hb6 ltg; have hl6_1 := Nat.le_of_lt hz6_1; have hz6_2 : w2.heap.size < w6.heap.size := lt_below hb6 ltg; have hl6_2 := Nat.le_of_lt hz6_2; have hz6_3 : w5.heap.size < w6.heap.size := lt_below hb6 ltg; have hl6_3 := Nat.le_of_lt hz6_3; have hA6 := bnext (w0 := w) bgo hb6; have hs6 := hA6.size; clear hb6)
    | (go_at_call 44; refine (radd_nv (by decide) (by decide) hv.nv hn6).mono ?_; rintro x w7 ⟨v7, rfl, hn7, hb7⟩; obtain ⟨hc7, hf7⟩ := bcell hb7; have hz7_0 : w.heap.size < w7.heap.size := lt_below hb7 ltg; have hl7_0 := Nat.le_of_lt hz7_0; have hz7_1 : w.heap.size + 1 < w7.heap.size := lt_below hb7 ltg; have hl7_1 := Nat.le_of_lt hz7_1; have hz7_2 : w2.heap.size < w7.heap.size := lt_below hb7 ltg; have hl7_2 := Nat.le_of_lt hz7_2; have hz7_3 : w5.heap.size < w7.heap.size := lt_below hb7 ltg; have hl7_3 := Nat.le_of_lt hz7_3; have hA7 := bnext (w0 := w) bgo hb7; have hs7 := hA7.size; clear hb7)
    | (go_at_call 60; refine (bits_nv hn7).mono ?_; rintro x w9 ⟨rfl, hb9⟩; obtain ⟨hc9, hf9⟩ := bcell hb9; have hz9_0 : w.heap.size < w9.heap.size := lt_below hb9 ltg; have hl9_0 := Nat.le_of_lt hz9_0; have hz9_1 : w.heap.size + 1 < w9.heap.size := lt_below hb9 ltg; have hl9_1 := Nat.le_of_lt hz9_1; have hz9_2 : w2.heap.size < w9.heap.size := lt_below hb9 ltg; have hl9_2 := Nat.le_of_lt hz9_2; have hz9_3 : w5.heap.size < w9.heap.size := lt_below hb9 ltg; have hl9_3 := Nat.le_of_lt hz9_3; have hA9 := bnext (w0 := w) bgo hb9; have hs9 := hA9.size; clear hb9))
  all_goals
    go_wp2
    exact bodyPost_ret (v := .tuple #[.agg #[.int .i64 1, .bool ((S : Int) == 1), .bool false, .int .i64 (l - 1 + En), .int .u64 (W4 (Fr + Pw) 0), .int .u64 (W4 (Fr + Pw) 1), .int .u64 (W4 (Fr + Pw) 2), .int .u64 (W4 (Fr + Pw) 3)], .int .i64 0]) (by simp only [results, Tryz.results24]; go_simp) rfl ⟨rfl, bgo⟩
end
theorem rpow_nv (f : Nat) (w : World) (hf : f ≤ 12000) : Calls Tryz.prog 61 #[.int .u64 2, .int .i64 f] w fun x w' => ∃ r, x = .returned r ∧ NV 50000 (2 ^ f) r w' ∧ Below w.heap.size w w' := by
  refine (rpow_any 2 f w (by decide) (by omega)).mono ?_
  rintro x w' ⟨g, k, cap, z, rfl, hk, hN, hv, hb⟩
  refine ⟨_, rfl, ?_, hb⟩
  unfold NV
  exact ⟨g, k, cap, z, rfl, by omega, hN, by rw [hv]; simp⟩
theorem bin_more {n : Int} (h : binN n) : numN n = n ∧ denseN n = false := by
  rcases bin_cases h with rfl | rfl | rfl | rfl | rfl | rfl <;> exact ⟨by decide, by decide⟩
theorem runpack_ok (n : Int) (B : Nat) (w : World) (hB : B < 2 ^ 256) (h : goodN n B) :
    Calls Tryz.prog 24 #[.int .i64 n, A4 B] w fun x w' => x = .returned (.tuple #[(unp (fN n) (eN n) (leastN n) B).v, .int .i64 0]) ∧ Below w.heap.size w w' := by
  have hF := bin_fm h.1
  obtain ⟨hok, hb2, hpr, hex, hwd, hpy⟩ := bin_fields h.1
  obtain ⟨hnum, hden⟩ := bin_more h.1
  have c24 := fun w => rgood_any n B hB w
  rw [decide_eq_true h] at c24
  have c25 := fun w => rofv_any n w
  rw [show infoE n = 0 from if_pos hok, hnum, hb2, hpr, hex, hden] at c25
  have hf : 2 ≤ fN n ∧ fN n ≤ 240 := ⟨hF.f2, hF.f240⟩
  have he := hF.e15
  have hfe := hF.fe
  have hp := pow_e hF.e2 hF.e15
  have hpc : ((2 : Int) ^ eN n) = ((2 ^ eN n : Nat) : Int) := by simp
  have hEl : B / 2 ^ fN n % 2 ^ eN n < 2 ^ eN n := Nat.mod_lt _ (Nat.two_pow_pos _)
  have c0 := fun w => field_any B 0 (fN n) w hB (by decide) (by omega)
  rw [show ((0 : Nat) : Int) = 0 from rfl, Nat.pow_zero, Nat.div_one] at c0
  have c1 := fun w => field_any B (fN n) (eN n) w hB (by omega) (by omega)
  have c26 := fun w => field_any B (fN n + eN n) 1 w hB (by omega) (by omega)
  rw [Int.natCast_add, show ((1 : Nat) : Int) = 1 from rfl, Nat.pow_one] at c26
  have hS9 : B / 2 ^ (fN n + eN n) % 2 < 9223372036854775808 := by omega
  have hEn : B / 2 ^ fN n % 2 ^ eN n < 9223372036854775808 := by rw [hpc] at hp; omega
  unfold unp
  by_cases h1 : B / 2 ^ fN n % 2 ^ eN n = 2 ^ eN n - 1
  · rw [if_pos h1]
    have hE : (((B / 2 ^ fN n % 2 ^ eN n : Nat) : Int) == 2 ^ eN n - 1) = true := by
      rw [hpc] at hp ⊢; rw [h1]; simp; omega
    unfold spc
    by_cases h2 : B % 2 ^ fN n = 0
    · rw [if_pos h2]
      have := runpack_inf n B (fN n) (eN n) _ _ _ _ _ _ _ _ w hf he hEn hS9 c24 c25 c0 c1 c26 hE h2
      have e : (Dat.mk 2 (sgB (fN n) (eN n) B) false 0 0).v = .agg #[.int .i64 2, .bool (((B / 2 ^ (fN n + eN n) % 2 : Nat) : Int) == 1), .bool false, .int .i64 0, .int .u64 0, .int .u64 0, .int .u64 0, .int .u64 0] := by
        unfold Dat.v DV sgB; simp only [W4_zero]
      rw [e]; exact this
    · rw [if_neg h2]
      have c26b := fun w => field_any B (fN n - 1) 1 w hB (by omega) (by omega)
      rw [show ((fN n - 1 : Nat) : Int) = (fN n : Int) - 1 by omega, show ((1 : Nat) : Int) = 1 from rfl, Nat.pow_one] at c26b
      have c26c := fun w => field_any B 0 (fN n - 1) w hB (by omega) (by omega)
      rw [show ((fN n - 1 : Nat) : Int) = (fN n : Int) - 1 by omega, show ((0 : Nat) : Int) = 0 from rfl, Nat.pow_zero, Nat.div_one] at c26c
      have := runpack_nan n B (fN n) (eN n) _ _ _ _ _ _ _ _ w hf he hEn hS9 c24 c25 c0 c1 c26 hE h2 _ _ (by omega) c26b c26c
      have hm : B % 2 ^ fN n = B % 2 ^ (fN n - 1) + 2 ^ (fN n - 1) * (B / 2 ^ (fN n - 1) % 2) := by
        have : 2 ^ fN n = 2 ^ (fN n - 1) * 2 := by rw [← Nat.pow_succ]; congr 1; omega
        rw [this]; exact Nat.mod_mul
      have hpl : B % 2 ^ (fN n - 1) < 2 ^ (fN n - 1) := Nat.mod_lt _ (Nat.two_pow_pos _)
      have e : (if B % 2 ^ fN n < 2 ^ (fN n - 1) then (Dat.mk 3 (sgB (fN n) (eN n) B) true 0 (B % 2 ^ fN n)) else ⟨3, sgB (fN n) (eN n) B, false, 0, B % 2 ^ fN n - 2 ^ (fN n - 1)⟩) = ⟨3, sgB (fN n) (eN n) B, (((B / 2 ^ (fN n - 1) % 2 : Nat) : Int) == 0), 0, B % 2 ^ (fN n - 1)⟩ := by
        have h01 : B / 2 ^ (fN n - 1) % 2 = 0 ∨ B / 2 ^ (fN n - 1) % 2 = 1 := by omega
        rcases h01 with h0 | h0
        · rw [h0, Nat.mul_zero, Nat.add_zero] at hm
          rw [if_pos (by omega), hm, h0]; rfl
        · rw [h0, Nat.mul_one] at hm
          rw [if_neg (by omega), h0, show B % 2 ^ fN n - 2 ^ (fN n - 1) = B % 2 ^ (fN n - 1) by omega]; rfl
      rw [e]
      exact this
  · rw [if_neg h1]
    have hE : (((B / 2 ^ fN n % 2 ^ eN n : Nat) : Int) == 2 ^ eN n - 1) = false := by
      rw [hpc] at hp ⊢; rw [beq_eq_false_iff_ne]; omega
    by_cases h2 : B / 2 ^ fN n % 2 ^ eN n = 0
    · rw [if_pos h2]
      exact runpack_sub n B (fN n) (eN n) _ _ _ _ _ _ _ _ w hf he hEn hS9 c24 c25 c0 c1 c26 hE (by omega)
    · rw [if_neg h2]
      have := runpack_norm n B (fN n) (eN n) _ _ _ _ _ _ _ _ w hf he hEn hS9 c24 c25 c0 c1 c26 hE (by rw [beq_eq_false_iff_ne]; omega) ⟨hF.l1, hF.l0⟩ (by rw [hpc] at hp; omega) (2 ^ fN n) (fun w => rpow_nv (fN n) w (by omega))
      rw [show leastN n - 1 + ((B / 2 ^ fN n % 2 ^ eN n : Nat) : Int) = leastN n + ((B / 2 ^ fN n % 2 ^ eN n : Nat) - 1 : Int) by omega] at this
      exact this
theorem runpack_any (n : Int) (B : Nat) (w : World) (hB : B < 2 ^ 256) :
    Calls Tryz.prog 24 #[.int .i64 n, A4 B] w fun x w' => x = .returned (.tuple #[(unD n B).v, .int .i64 (unE n B)]) ∧ Below w.heap.size w w' := by
  unfold unD unE
  by_cases h : goodN n B
  · rw [if_pos h, if_pos h]; exact runpack_ok n B w hB h
  · rw [if_neg h, if_neg h]; exact runpack_bad n B w hB h
end Go.Proofs.YtplocajjfoiklaaGreatDoor

namespace Go.Proofs.YtplocajjfoiklaaGreatDoor
open Go.RowKit

/-- a block holds four words of a number, from a place on -/
structure Four (w : World) (g o k : Nat) : Prop where
  cell : ∀ i, i < 4 → w.cell? ⟨g, o + i, none⟩ = some (.int .u64 (W4 k i))
theorem Four.of {w : World} {g o k : Nat} (h0 : w.cell? ⟨g, o + 0, none⟩ = some (.int .u64 (W4 k 0))) (h1 : w.cell? ⟨g, o + 1, none⟩ = some (.int .u64 (W4 k 1))) (h2 : w.cell? ⟨g, o + 2, none⟩ = some (.int .u64 (W4 k 2))) (h3 : w.cell? ⟨g, o + 3, none⟩ = some (.int .u64 (W4 k 3))) : Four w g o k :=
  ⟨fun i hi => by
    have : i = 0 ∨ i = 1 ∨ i = 2 ∨ i = 3 := by omega
    rcases this with rfl | rfl | rfl | rfl <;> assumption⟩
theorem Four.next {w w' : World} {g o k : Nat} (h : Four w g o k) (hg : g < w.heap.size) (hb : Below w.heap.size w w') : Four w' g o k :=
  ⟨fun i hi => by rw [hb.cell (p := ⟨g, o + i, none⟩) hg]; exact h.cell i hi⟩
/-- a block holds a datum -/
structure Dc (w : World) (g : Nat) (c : Int) (s b : Bool) (x : Int) (k : Nat) : Prop where
  c0 : w.cell? ⟨g, 0, none⟩ = some (.int .i64 c)
  c1 : w.cell? ⟨g, 1, none⟩ = some (.bool s)
  c2 : w.cell? ⟨g, 2, none⟩ = some (.bool b)
  c3 : w.cell? ⟨g, 3, none⟩ = some (.int .i64 x)
  c4 : w.cell? ⟨g, 4, none⟩ = some (.int .u64 (W4 k 0))
  c5 : w.cell? ⟨g, 5, none⟩ = some (.int .u64 (W4 k 1))
  c6 : w.cell? ⟨g, 6, none⟩ = some (.int .u64 (W4 k 2))
  c7 : w.cell? ⟨g, 7, none⟩ = some (.int .u64 (W4 k 3))
theorem Dc.next {w w' : World} {g : Nat} {c : Int} {s b : Bool} {x : Int} {k : Nat} (h : Dc w g c s b x k) (hg : g < w.heap.size) (hb : Below w.heap.size w w') : Dc w' g c s b x k :=
  ⟨by rw [hb.cell (p := ⟨g, 0, none⟩) hg, h.c0], by rw [hb.cell (p := ⟨g, 1, none⟩) hg, h.c1], by rw [hb.cell (p := ⟨g, 2, none⟩) hg, h.c2], by rw [hb.cell (p := ⟨g, 3, none⟩) hg, h.c3],
   by rw [hb.cell (p := ⟨g, 4, none⟩) hg, h.c4], by rw [hb.cell (p := ⟨g, 5, none⟩) hg, h.c5], by rw [hb.cell (p := ⟨g, 6, none⟩) hg, h.c6], by rw [hb.cell (p := ⟨g, 7, none⟩) hg, h.c7]⟩
/-- what stands in the words below i -/
def mo (A B i : Nat) : Bool := decide (val (W4 B) i < val (W4 A) i)
attribute [local irreducible] W4 mo
end Go.Proofs.YtplocajjfoiklaaGreatDoor

namespace Go.Proofs.YtplocajjfoiklaaGreatDoor
open Go.RowKit

theorem DV_zero (c : Int) (s g : Bool) (x : Int) : DV c s g x 0 = .agg #[.int .i64 c, .bool s, .bool g, .int .i64 x, .int .u64 0, .int .u64 0, .int .u64 0, .int .u64 0] := by
  unfold DV; simp only [W4_zero]
attribute [local irreducible] W4 NT NV Nt
end Go.Proofs.YtplocajjfoiklaaGreatDoor

namespace Go.Proofs.YtplocajjfoiklaaGreatDoor
open Go.RowKit

section
variable {H : Type} {enc : TypeId × Value → H} {W : World} {base : Nat} {sp : Nat → Bool} {held : Bool}
theorem u59 : ∃ a b c d, Tryz.prog.underlying 108 = some (.struct #[a, b, c, d]) ∧ a.offset = 0 ∧ b.offset = 1 ∧ c.offset = 2 ∧ d.offset = 3 ∧ a.type = 9 ∧ b.type = 3 ∧ c.type = 3 ∧ d.type = 3 :=
  ⟨_, _, _, _, Tryz.underlying108, rfl, rfl, rfl, rfl, rfl, rfl, rfl, rfl⟩
theorem c9 : Tryz.prog.cellsOf 9 = 1 := by kernel_rfl
theorem c3 : Tryz.prog.cellsOf 3 = 1 := by kernel_rfl
theorem c59 : Tryz.prog.cellsOf 108 = 4 := by kernel_rfl
theorem c60 : Tryz.prog.cellsOf 109 = 48 := by kernel_rfl
theorem u60 : Tryz.prog.underlying 109 = some (.array 12 108) := by kernel_rfl
theorem row_cells {fuel : Nat} {cs : List Value} {nm : List UInt8} {a b c : Int} {p : DataW H × List MemPlace} (hp : p.1 = .agg [.lit (.string nm), .lit (.int .i64 a), .lit (.int .i64 b), .lit (.int .i64 c)])
    (h : DataW.trod enc Tryz.prog W base sp held fuel 108 cs = some p) : cs = [.string ⟨nm.toArray⟩, .int .i64 a, .int .i64 b, .int .i64 c] := by
  obtain ⟨f0, f1, f2, f3, hu, o0, o1, o2, o3, t0, t1, t2, t3⟩ := u59
  obtain ⟨y0, y1, y2, y3, n, rfl, hl, h0, h1, h2, h3⟩ := Joins.trod_struct4 hu h
  rw [o0, t0, c9] at h0
  rw [o1, t1, c3] at h1
  rw [o2, t2, c3] at h2
  rw [o3, t3, c3] at h3
  obtain ⟨s, hs, rfl, _⟩ := DataW.trod_string Tryz.underlying9 h0
  obtain ⟨z1, hz1, rfl, _⟩ := DataW.trod_int Tryz.underlying3 h1
  obtain ⟨z2, hz2, rfl, _⟩ := DataW.trod_int Tryz.underlying3 h2
  obtain ⟨z3, hz3, rfl, _⟩ := DataW.trod_int Tryz.underlying3 h3
  simp only [DataW.agg.injEq, List.cons.injEq, DataW.lit.injEq, Lit.string.injEq, Lit.int.injEq, true_and, and_true] at hp
  obtain ⟨rfl, rfl, rfl, rfl⟩ := hp
  rw [c59] at hl
  match cs, hl with
  | [v0, v1, v2, v3], _ =>
    simp at hs hz1 hz2 hz3
    subst hs hz1 hz2 hz3
    rfl
theorem row_at {cs : List Value} {i : Nat} {v0 v1 v2 v3 : Value} (h : (cs.drop (i * 4)).take 4 = [v0, v1, v2, v3]) : cs[i * 4]? = some v0 ∧ cs[i * 4 + 1]? = some v1 ∧ cs[i * 4 + 2]? = some v2 ∧ cs[i * 4 + 3]? = some v3 := by
  have g : ∀ k, k < 4 → cs[i * 4 + k]? = [v0, v1, v2, v3][k]? := fun k hk => by
    rw [← h, List.getElem?_take_of_lt hk, List.getElem?_drop]
  exact ⟨g 0 (by decide), g 1 (by decide), g 2 (by decide), g 3 (by decide)⟩
theorem tab_of_trod {fuel : Nat} {cs : List Value} {p : List MemPlace} (h : DataW.trod enc Tryz.prog W base sp held fuel 109 cs = some (Rows.laid_caliper_desc_rows, p)) :
    ∀ i k, i < 12 → k < 4 → cs[i * 4 + k]? = some (rowV i k) := by
  cases fuel with
  | zero => simp [DataW.trod] at h
  | succ fuel =>
    simp only [DataW.trod, u60, c59, c60] at h
    split at h
    · rename_i hl
      obtain ⟨xs, hm, hx⟩ := Option.map_eq_some_iff.1 h
      have hxs := congrArg Prod.fst hx
      simp only [Rows.laid_caliper_desc_rows, DataW.agg.injEq] at hxs
      intro i k hi hk
      obtain ⟨b, hb, hf⟩ := Lib.mapM_at hm i i (by simp [hi])
      have hd : (xs.map (·.1))[i]? = some b.1 := by simp [hb]
      rw [hxs] at hd
      have key : ∀ (nm : List UInt8) (x y z : Int), b.1 = .agg [.lit (.string nm), .lit (.int .i64 x), .lit (.int .i64 y), .lit (.int .i64 z)] → cs[i * 4]? = some (.string ⟨nm.toArray⟩) ∧ cs[i * 4 + 1]? = some (.int .i64 x) ∧ cs[i * 4 + 2]? = some (.int .i64 y) ∧ cs[i * 4 + 3]? = some (.int .i64 z) :=
        fun nm x y z e => row_at (row_cells e hf)
      have hk' : k = 0 ∨ k = 1 ∨ k = 2 ∨ k = 3 := by omega
      have hi' : i = 0 ∨ i = 1 ∨ i = 2 ∨ i = 3 ∨ i = 4 ∨ i = 5 ∨ i = 6 ∨ i = 7 ∨ i = 8 ∨ i = 9 ∨ i = 10 ∨ i = 11 := by omega
      rcases hi' with rfl | rfl | rfl | rfl | rfl | rfl | rfl | rfl | rfl | rfl | rfl | rfl
      all_goals
        obtain ⟨q0, q1, q2, q3⟩ := key _ _ _ _ (Option.some.inj hd).symm
        rcases hk' with rfl | rfl | rfl | rfl
        · exact q0
        · exact q1
        · exact q2
        · exact q3
    · cases h
end
theorem tab_of_laid {W : World} {rest : List (String × DataW Unit)} (h : laidMet Tryz.prog (("caliper/desc.rows", Rows.laid_caliper_desc_rows) :: rest) W) : Tab W := by
  obtain ⟨ps, ⟨g', t', cs, fuel, p, q, hg', ht', hvar, hd, _, _⟩, _⟩ := h
  have hg : Tryz.prog.globalNamed "caliper/desc.rows" = some 0 := by kernel_rfl
  have hty : (Tryz.prog.globals[0]?).map (·.type) = some 109 := by kernel_rfl
  obtain rfl := Option.some.inj (hg.symm.trans hg')
  obtain rfl := Option.some.inj (hty.symm.trans ht')
  have hc := tab_of_trod hd
  have hcell : ∀ i k, i < 12 → k < 4 → W.cell? ⟨0, i * 4 + k, none⟩ = some (rowV i k) := fun i k hi hk => by
    have := World.var?_cell hg hvar (i * 4 + k)
    rw [this, ← hc i k hi hk]
    simp
  refine ⟨?_, hcell⟩
  have h0 := hcell 0 0 (by decide) (by decide)
  by_cases hz : 0 < W.heap.size
  · exact hz
  · have : W.heap[0]? = none := Array.getElem?_eq_none (by omega)
    simp [World.cell?, this] at h0
end Go.Proofs.YtplocajjfoiklaaGreatDoor

namespace Go.Proofs.YtplocajjfoiklaaGreatDoor
open Go.RowKit

/-- a number without noughts ahead -/
theorem dV_ge {l : List UInt8} (hd : l.all dg = true) (h0 : by_ l 0 ≠ 48) (hl : l ≠ []) : 10 ^ (l.length - 1) ≤ dV l := by
  cases l with
  | nil => exact absurd rfl hl
  | cons c r =>
    have hr : r.all dg = true := by rw [List.all_cons] at hd; simp at hd; simpa using hd.2
    have hc : dg c = true := by rw [List.all_cons] at hd; simp at hd; exact hd.1
    unfold dg at hc
    have hc' := of_decide_eq_true hc
    rw [by_zero] at h0
    have h := numV_app (s := B (c :: r)) (u := B r) 1 (B r).size (fun i hi => by rw [sb_by, sb_by, Nat.add_comm, by_succ])
    have hs : (B (c :: r)).size = 1 + (B r).size := by rw [B_size, B_size, List.length_cons]; omega
    have h1 : numV (B (c :: r)) 1 = (c.toNat : Int) - 48 := by
      have : numV (B (c :: r)) 1 = numV (B (c :: r)) 0 * 10 + (sb (B (c :: r)) 0 - 48) := rfl
      rw [this, sb_by, by_zero]
      have : numV (B (c :: r)) 0 = 0 := rfl
      omega
    have hb := (numV_bd _ (dig_B hr)).1
    have e := (dV_lt hd).2
    rw [hs, h, h1] at e
    rw [B_size] at e hb
    have hp : ((10 : Int) ^ r.length) = ((10 ^ r.length : Nat) : Int) := by simp
    rw [hp] at e
    show 10 ^ (r.length + 1 - 1) ≤ _
    rw [Nat.add_sub_cancel]
    have hm : 1 * ((10 ^ r.length : Nat) : Int) ≤ ((c.toNat : Int) - 48) * ((10 ^ r.length : Nat) : Int) := Int.mul_le_mul_of_nonneg_right (by omega) (Int.natCast_nonneg _)
    omega
theorem dV_nil : dV [] = 0 := rfl
theorem pl_isD {f : Nat} {l m : Int} (s g : Bool) (A : Nat) (hf : 2 ≤ f) : isD f l m ⟨3, s, g, 0, plV f g A⟩ := by
  refine Or.inr (Or.inr ⟨rfl, rfl, ?_, ?_⟩)
  · show plV f g A < 2 ^ (f - 1)
    have h : plA f A < 2 ^ (f - 1) := by
      unfold plA
      split
      · exact Nat.two_pow_pos _
      · rename_i h
        exact bl_le.1 (by omega)
    unfold plV
    split
    · exact Nat.one_lt_two_pow (by omega)
    · exact h
  · show plV f g A ≠ 0 ∨ g = false
    cases g
    · exact Or.inr rfl
    · left
      unfold plV
      split
      · decide
      · rename_i h
        intro h2
        exact h ⟨rfl, h2⟩
theorem fN_ge {n : Int} (hb : binN n) : 2 ≤ fN n := by
  rcases bin_cases hb with rfl | rfl | rfl | rfl | rfl | rfl <;> decide
end Go.Proofs.YtplocajjfoiklaaGreatDoor

namespace Go.Proofs.YtplocajjfoiklaaGreatDoor
open Go.RowKit

attribute [local irreducible] W4
section
variable (n d : Int) (l : List UInt8) (q : Prt) (nm : ByteArray) (wd : Int) (f e : Nat) (lo m : Int) (w : World)
variable (c22 : ∀ W, Calls Tryz.prog 14 #[.int .i64 n] W fun r w' => r = .returned (.bool true) ∧ W = w')
include c22
variable (c15 : ∀ W, Calls Tryz.prog 15 #[.int .i64 d] W fun r w' => r = .returned (.bool true) ∧ W = w')
include c15
end
theorem cut_ex {l : List UInt8} {p : Prt} (h : cutP l = some p) : -9223372036854775808 ≤ p.ex ∧ p.ex ≤ 9223372036854775807 := by
  rcases (cut_good h).2 with ⟨_, _, h⟩ | h | h
  · omega
  · obtain ⟨_, _, _, h⟩ := h
    omega
  · obtain ⟨_, h⟩ := h
    omega
end Go.Proofs.YtplocajjfoiklaaGreatDoor

namespace Go.Proofs.YtplocajjfoiklaaGreatDoor
open Go.RowKit

theorem tex_len2 {c : Int} {s g : Bool} {d : List UInt8} {e : Int} (he : -9223372036854775808 ≤ e ∧ e ≤ 9223372036854775807) : (texT c s g d e).length ≤ d.length + 100 := by
  have hi := Lib.itoa_length_le e he.1 he.2
  have h1 : (bodT c g d e).length ≤ d.length + 50 := by
    unfold bodT
    split
    · simp
    · split
      · unfold nanT
        simp only [List.length_append, List.length_cons]
        split <;> split <;> simp <;> omega
      · unfold finT dgT exT
        simp only [List.length_append]
        split <;> split <;> simp <;> omega
  unfold texT
  rw [List.length_append]
  split <;> simp <;> omega
theorem cut_dl {l : List UInt8} {p : Prt} (h : cutP l = some p) : p.dig.length ≤ l.length := by
  unfold cutP at h
  split at h
  · cases h
  · rename_i hl
    have hs := sgR_le l
    unfold bodP at h
    split at h
    · cases h
      show (finD (sgR l)).length ≤ l.length
      unfold finD
      have h1 := bar_le (dgs (sgR l) ++ frac (sgR l))
      have h2 := congrArg List.length (dgs_rst (sgR l))
      have h3 : (frac (sgR l)).length ≤ (rst (sgR l)).length := by
        unfold frac; split
        · exact Nat.le_trans (dgs_le _) (trimPre_le _ _)
        · simp
      rw [List.length_append] at h1 h2
      omega
    · split at h
      · cases h
        exact Nat.zero_le _
      · split at h
        · cases h
          show (bar (paD (nanR (sml (sgR l))))).length ≤ l.length
          have h1 := bar_le (paD (nanR (sml (sgR l))))
          have h2 : (paD (nanR (sml (sgR l)))).length ≤ (nanR (sml (sgR l))).length := by
            unfold paD
            split
            · exact Nat.le_trans (dgs_le _) (trimPre_le _ _)
            · exact Nat.zero_le _
          have h3 : (nanR (sml (sgR l))).length ≤ (sml (sgR l)).length := by
            unfold nanR
            exact Nat.le_trans (trimPre_le _ _) (trimPre_le _ _)
          rw [sml_len] at h3
          omega
        · cases h
theorem cut_jn {l : List UInt8} {p : Prt} (h : cutP l = some p) (hl : l.length ≤ 3001) : jnP p := by
  have h1 := cut_good h
  have h2 := cut_dl h
  have h3 := tex_len2 (c := p.cls) (s := p.sg) (g := p.sn) (d := p.dig) (cut_ex h)
  refine jn_of_gd ⟨h1.1, ?_⟩
  rcases h1.2 with ⟨a, b, c⟩ | h | ⟨a, b⟩
  · exact Or.inl ⟨a, b, c, by omega⟩
  · exact Or.inr (Or.inl h)
  · exact Or.inr (Or.inr ⟨a, b, by omega⟩)
/-- the parts with this sign -/
def Prt.at (p : Prt) (s : Bool) : Prt := ⟨p.cls, s, p.sn, p.dig, p.ex⟩
/-! Make by value -/
def mkV (n d : Int) (p : Prt) : Nat := if p.cls = 1 then rdV n d p.sg (tN (dV p.dig) (pwE p.dig.length p.ex)) (tD (pwE p.dig.length p.ex)) (pwE p.dig.length p.ex) else if p.cls = 2 then pkV n ⟨2, p.sg, false, 0, 0⟩ else pkV n ⟨3, p.sg, p.sn, 0, plV (fN n) p.sn (dV p.dig)⟩
def mkF (n d : Int) (p : Prt) : Int := if p.cls = 1 then rdF n d p.sg (tN (dV p.dig) (pwE p.dig.length p.ex)) (tD (pwE p.dig.length p.ex)) (pwE p.dig.length p.ex) else 0
theorem make_v {n d : Int} {p : Prt} (hb : binN n) (hk : knB d) (hj : jnP p) (he : -9223372036854775808 ≤ p.ex ∧ p.ex ≤ 9223372036854775807) (W : World) (hT : Tab W) (hT10 : Tb10 W) :
    Calls Tryz.prog 37 #[.int .i64 n, .int .i64 d, p.v] W fun r w' => r = .returned (.tuple #[A4 (mkV n d p), .int .i64 (mkF n d p), .int .i64 0]) ∧ Below W.heap.size W w' := by
  have c28 := fun W (hT : Tab W) => rck_good n d W hT ⟨hb, hk⟩
  have hgd := gd_of_jn hj
  have hl4 := hj.1
  obtain ⟨hdD, hcls⟩ := id hgd
  have hall := gdD_all hdD
  obtain ⟨fl1, fl2, fl3, fl4, fl5⟩ := fld_bd hb
  have hf2 := fN_ge hb
  unfold mkV mkF
  rcases hcls with ⟨hc, hsn, hx, _⟩ | ⟨hc, hsn, hd0, hx0⟩ | ⟨hc, hx0, _⟩
  · rw [if_pos hc, if_pos hc]
    exact make_1 n d p.cls p.sg p.sn p.dig p.ex _ _ _ _ _ _ _ W hT c28 (fun W' hW' => join_y p W' (hT10.next hW') he hj) hc _ _ _ (fun W' hT' => finite8 n d 1 p.sg p.sn p.dig p.ex W' hT' hb hk hall hl4)
  · have hc1 : ¬ p.cls = 1 := by omega
    rw [if_neg hc1, if_neg hc1, if_pos hc]
    have hi : isD (fN n) (leastN n) (mostN n) ⟨2, p.sg, false, 0, 0⟩ := Or.inr (Or.inl ⟨rfl, rfl, rfl, rfl⟩)
    have hE : pkE n ⟨2, p.sg, false, 0, 0⟩ = 0 := by unfold pkE; rw [if_pos hb, if_pos hi]
    have c34 := fun W hT => pack_any n ⟨2, p.sg, false, 0, 0⟩ W hT (show 0 < 2 ^ 256 by decide)
    rw [show (Dat.v ⟨2, p.sg, false, 0, 0⟩) = _ from DV_zero 2 p.sg false 0, hE] at c34
    exact make_2 n d p.cls p.sg p.sn p.dig p.ex _ _ _ _ _ _ _ W hT c28 (fun W' hW' => join_y p W' (hT10.next hW') he hj) hc _ _ (by rw [hsn]; exact c34)
  · have hc1 : ¬ p.cls = 1 := by omega
    have hc2 : ¬ p.cls = 2 := by omega
    rw [if_neg hc1, if_neg hc1, if_neg hc2]
    have hi := pl_isD (l := leastN n) (m := mostN n) p.sg p.sn (dV p.dig) hf2
    have hE : pkE n ⟨3, p.sg, p.sn, 0, plV (fN n) p.sn (dV p.dig)⟩ = 0 := by unfold pkE; rw [if_pos hb, if_pos hi]
    have hlt := plV_lt (f := fN n) (A := dV p.dig) p.sn fl4
    have c34 := fun W hT => pack_any n ⟨3, p.sg, p.sn, 0, plV (fN n) p.sn (dV p.dig)⟩ W hT hlt
    rw [hE] at c34
    exact make_3 n d p.cls p.sg p.sn p.dig p.ex _ _ _ _ _ _ _ W hT c28 (fun W' hW' => join_y p W' (hT10.next hW') he hj) hc _ _ _ (fun W' => payload8 _ _ _ _ _ _ _ 3 p.sg p.sn p.dig p.ex W' fl4 hall hl4) c34
/-! Read by value -/
end Go.Proofs.YtplocajjfoiklaaGreatDoor
