/-
  Texts that the proof leans on, joined: Gg, Gh, Ml, Sht.
-/
import Derived.Test.YtplocajjfoiklaaGreatDoorR13
import Derived.Test.YtplocajjfoiklaaGreatDoorR1
import Derived.Test.YtplocajjfoiklaaGreatDoorR11
import Derived.Shelf.Strings.Trim
import Derived.Test.YtplocajjfoiklaaGreatDoorProg
set_option maxHeartbeats 8000000
set_option linter.unusedVariables false
set_option linter.unusedSimpArgs false
set_option linter.unusedSectionVars false
set_option maxRecDepth 20000
namespace Go.Proofs.YtplocajjfoiklaaGreatDoor
open Go.RowKit
def paD (l : List UInt8) : List UInt8 := if Lib.hasPrefix l [40] then dgs (Lib.trimPrefix l [40]) else []
def paB (l : List UInt8) : Bool := l.isEmpty || (Lib.hasPrefix l [40] && (!(dgs (Lib.trimPrefix l [40])).isEmpty && (rst (Lib.trimPrefix l [40]) == [41])))
theorem payload_any (l : List UInt8) (w : World) (hs : l.length < 10001) :
  Calls Tryz.prog 143 #[.string (B l)] w fun e w' => e = .returned (.tuple #[.string (B (paD l)), .bool (paB l)]) ∧ Below w.heap.size w w' := by
 have htl := B_toList
 cases l with
 | nil =>
  go_enter Tryz.func143, Tryz.ntmps143
  go_wp2
  go_ret2
  exact ⟨rfl, Below.refl _ _⟩
 | cons c r =>
  have c28 : ∀ w, Calls Tryz.prog 73 #[.string (B (c :: r)), .string ⟨#[40]⟩] w fun e w' => e = .returned (.tuple #[.string (B (Lib.trimPrefix (c :: r) [40])), .bool (Lib.hasPrefix (c :: r) [40])]) ∧ w' = w := fun w => cutp_any (c :: r) [40] w
  have hTl := trimPre_le (c :: r) [40]
  have c27 := fun w => ldig_any (Lib.trimPrefix (c :: r) [40]) w (by omega)
  unfold paD paB
  generalize Lib.trimPrefix (c :: r) [40] = T at *
  generalize Lib.hasPrefix (c :: r) [40] = z at *
  simp only [List.isEmpty_cons, Bool.false_or]
  cases z
  ·simp only [Bool.false_eq_true, if_false, Bool.false_and]
   go_enter Tryz.func143, Tryz.ntmps143
   go_wp2_with (go_at_call 73; refine (c28 _).mono ?_; rintro x w2 ⟨rfl, rfl⟩)
   go_ret2
   exact ⟨rfl, Below.refl _ _⟩
  ·simp only [if_true, Bool.true_and]
   generalize dgs T = D at *
   generalize rst T = R at *
   cases D with
   | nil =>
    simp only [List.isEmpty_nil, Bool.not_true, Bool.false_and]
    go_enter Tryz.func143, Tryz.ntmps143
    go_wp2_with (first | (go_at_call 73; refine (c28 _).mono ?_; rintro x w2 ⟨rfl, rfl⟩) | (go_at_call 139; refine (c27 _).mono ?_; rintro x w3 ⟨rfl, hb3⟩))
    go_ret2
    exact ⟨rfl, hb3⟩
   | cons d ds =>
    simp only [List.isEmpty_cons, Bool.not_false, Bool.true_and]
    go_enter Tryz.func143, Tryz.ntmps143
    go_wp2_with (first | (go_at_call 73; refine (c28 _).mono ?_; rintro x w2 ⟨rfl, rfl⟩) | (go_at_call 139; refine (c27 _).mono ?_; rintro x w3 ⟨rfl, hb3⟩))
    go_ret2
    exact ⟨rfl, hb3⟩
def infB (x : List UInt8) : Bool := x == [105, 110, 102] || x == [105, 110, 102, 105, 110, 105, 116, 121]
def nanR (x : List UInt8) : List UInt8 := Lib.trimPrefix (Lib.trimPrefix x [115]) [110, 97, 110]
def nanB (x : List UInt8) : Bool := Lib.hasPrefix (Lib.trimPrefix x [115]) [110, 97, 110] && paB (nanR x)
def woB (s : List UInt8) : Bool := infB (sml s) || nanB (sml s)
def woV (s : List UInt8) : Value := if infB (sml s) then PV 2 false false [] 0 else if nanB (sml s) then PV 3 false (Lib.hasPrefix (sml s) [115]) (bar (paD (nanR (sml s)))) 0 else PV 0 false false [] 0
theorem gword_any (s : List UInt8) (w : World) (hs : s.length < 10001) :
  Calls Tryz.prog 87 #[.string (B s)] w fun e w' => e = .returned (.tuple #[woV s, .bool (woB s)]) ∧ Below w.heap.size w w' := by
 have htl := B_toList
 have c31 := fun w => gsmall_any s w hs
 unfold woV woB PV
 have hxl := sml_len s
 generalize sml s = x at *
 have HI : Hid (infB x = (x == [105, 110, 102] || x == [105, 110, 102, 105, 110, 105, 116, 121])) := rfl
 by_cases h1 : x = [105, 110, 102]
 ·have hi : infB x = true := by rw [h1]; rfl
  rw [hi]
  subst h1
  simp only [if_true, Bool.true_or]
  go_enter Tryz.func87, Tryz.ntmps87
  go_wp2_with (first | (go_at_call 142; refine (c31 _).mono ?_; rintro x w1 ⟨rfl, hb1⟩; obtain ⟨hc1, hf1, hz1_0, hl1_0, hA1, hs1⟩ := wz w hb1 w.heap.size; clear hb1))
  exact bodyPost_ret (v := .tuple #[.agg #[.int .i64 2, .bool false, .bool false, .string ⟨#[]⟩, .int .i64 0], .bool true]) (by simp only [results, Tryz.results87]; go_simp) rfl ⟨rfl, bgo⟩
 ·by_cases h2 : x = [105, 110, 102, 105, 110, 105, 116, 121]
  ·have hi : infB x = true := by rw [h2]; rfl
   rw [hi]
   subst h2
   simp only [if_true, Bool.true_or]
   go_enter Tryz.func87, Tryz.ntmps87
   go_wp2_with (first | (go_at_call 142; refine (c31 _).mono ?_; rintro x w1 ⟨rfl, hb1⟩; obtain ⟨hc1, hf1, hz1_0, hl1_0, hA1, hs1⟩ := wz w hb1 w.heap.size; clear hb1))
   exact bodyPost_ret (v := .tuple #[.agg #[.int .i64 2, .bool false, .bool false, .string ⟨#[]⟩, .int .i64 0], .bool true]) (by simp only [results, Tryz.results87]; go_simp) rfl ⟨rfl, bgo⟩
  ·have hi : infB x = false := by unfold infB; rw [beq_eq_false_iff_ne.2 h1, beq_eq_false_iff_ne.2 h2]; rfl
   rw [hi]
   have b1 : (x == [105, 110, 102]) = false := beq_eq_false_iff_ne.2 h1
   have b2 : (x == [105, 110, 102, 105, 110, 105, 116, 121]) = false := beq_eq_false_iff_ne.2 h2
   simp only [Bool.false_eq_true, if_false, Bool.false_or]
   have c28 : ∀ w, Calls Tryz.prog 73 #[.string (B x), .string ⟨#[115]⟩] w fun e w' => e = .returned (.tuple #[.string (B (Lib.trimPrefix x [115])), .bool (Lib.hasPrefix x [115])]) ∧ w' = w := fun w => cutp_any x [115] w
   have hl1 := trimPre_le x [115]
   have c28n : ∀ w, Calls Tryz.prog 73 #[.string (B (Lib.trimPrefix x [115])), .string ⟨#[110, 97, 110]⟩] w fun e w' => e = .returned (.tuple #[.string (B (nanR x)), .bool (Lib.hasPrefix (Lib.trimPrefix x [115]) [110, 97, 110])]) ∧ w' = w := fun w => cutp_any (Lib.trimPrefix x [115]) [110, 97, 110] w
   have hl2 := trimPre_le (Lib.trimPrefix x [115]) [110, 97, 110]
   change (nanR x).length ≤ _ at hl2
   unfold nanB
   generalize Lib.hasPrefix (Lib.trimPrefix x [115]) [110, 97, 110] = z at *
   generalize Lib.hasPrefix x [115] = g at *
   generalize Lib.trimPrefix x [115] = T at *
   have c32 := fun w => payload_any (nanR x) w (by omega)
   generalize nanR x = N at *
   have hpl : (paD N).length ≤ N.length := by
    unfold paD; split
    ·exact Nat.le_trans (dgs_le _) (trimPre_le _ _)
    ·simp
   have c30 := fun w => signif_any (paD N) w (by omega)
   generalize paD N = P at *
   generalize paB N = y at *
   cases z
   ·simp only [Bool.false_and, Bool.false_eq_true, if_false]
    go_enter Tryz.func87, Tryz.ntmps87
    go_wp2_with (first | (go_at_call 142; refine (c31 _).mono ?_; rintro x w1 ⟨rfl, hb1⟩; obtain ⟨hc1, hf1, hz1_0, hl1_0, hA1, hs1⟩ := wz w hb1 w.heap.size; clear hb1) | (go_at_call 73; refine (c28 _).mono ?_; rintro x w2 ⟨rfl, rfl⟩; clear c28))
    go_wp2_with (first | (go_at_call 73; refine (c28n _).mono ?_; rintro x w2 ⟨rfl, rfl⟩; clear c28n))
    exact bodyPost_ret (v := .tuple #[.agg #[.int .i64 0, .bool false, .bool false, .string ⟨#[]⟩, .int .i64 0], .bool false]) (by simp only [results, Tryz.results87]; go_simp) rfl ⟨rfl, bgo⟩
   ·cases y
    ·simp only [Bool.true_and, Bool.false_eq_true, if_false]
     go_enter Tryz.func87, Tryz.ntmps87
     go_wp2_with (first | (go_at_call 142; refine (c31 _).mono ?_; rintro x w1 ⟨rfl, hb1⟩; obtain ⟨hc1, hf1, hz1_0, hl1_0, hA1, hs1⟩ := wz w hb1 w.heap.size; clear hb1) | (go_at_call 73; refine (c28 _).mono ?_; rintro x w2 ⟨rfl, rfl⟩; clear c28))
     go_wp2_with (first | (go_at_call 73; refine (c28n _).mono ?_; rintro x w2 ⟨rfl, rfl⟩; clear c28n) | (go_at_call 143; refine (c32 _).mono ?_; rintro x w3 ⟨rfl, hb3⟩; obtain ⟨hc3, hf3, hz3_0, hl3_0, hA3, hs3⟩ := wz w hb3 w.heap.size; clear hb3))
     exact bodyPost_ret (v := .tuple #[.agg #[.int .i64 0, .bool false, .bool false, .string ⟨#[]⟩, .int .i64 0], .bool false]) (by simp only [results, Tryz.results87]; go_simp) rfl ⟨rfl, bgo⟩
    ·simp only [Bool.true_and, if_true]
     go_enter Tryz.func87, Tryz.ntmps87
     go_wp2_with (first | (go_at_call 142; refine (c31 _).mono ?_; rintro x w1 ⟨rfl, hb1⟩; obtain ⟨hc1, hf1, hz1_0, hl1_0, hA1, hs1⟩ := wz w hb1 w.heap.size; clear hb1) | (go_at_call 73; refine (c28 _).mono ?_; rintro x w2 ⟨rfl, rfl⟩; clear c28))
     go_wp2_with (first | (go_at_call 73; refine (c28n _).mono ?_; rintro x w2 ⟨rfl, rfl⟩; clear c28n) | (go_at_call 143; refine (c32 _).mono ?_; rintro x w3 ⟨rfl, hb3⟩; obtain ⟨hc3, hf3, hz3_0, hl3_0, hA3, hs3⟩ := wz w hb3 w.heap.size; clear hb3) | (go_at_call 141; refine (c30 _).mono ?_; rintro x w4 ⟨rfl, hb4⟩; obtain ⟨hc4, hf4, hz4_0, hl4_0, hA4, hs4⟩ := wz w hb4 w.heap.size; clear hb4))
     exact bodyPost_ret (v := .tuple #[.agg #[.int .i64 3, .bool false, .bool g, .string (B (bar P)), .int .i64 0], .bool true]) (by simp only [results, Tryz.results87]; go_simp) rfl ⟨rfl, bgo⟩
structure Prt where
 cls : Int
 sg : Bool
 sn : Bool
 dig : List UInt8
 ex : Int
def Prt.v (p : Prt) : Value := PV p.cls p.sg p.sn p.dig p.ex
def Prt.zero : Prt := ⟨0, false, false, [], 0⟩
def bodP (z : Bool) (r : List UInt8) : Option Prt :=
 if finB r then some ⟨1, z, false, finD r, finE r⟩
 else if infB (sml r) then some ⟨2, z, false, [], 0⟩
 else if nanB (sml r) then some ⟨3, z, Lib.hasPrefix (sml r) [115], bar (paD (nanR (sml r))), 0⟩
 else none
def cutP (l : List UInt8) : Option Prt := if 4000 < l.length then none else bodP (gsgB l) (sgR l)
def cutE (l : List UInt8) : Int := if 4000 < l.length then 4 else if (cutP l).isSome then 0 else 2
def cutV (l : List UInt8) : Prt := (cutP l).getD Prt.zero
theorem cut_long (l : List UInt8) (w : World) (hs : l.length < 10001) (hl : 4000 < l.length) :
  Calls Tryz.prog 36 #[.string (B l)] w fun e w' => e = .returned (.tuple #[PV 0 false false [] 0, .int .i64 4]) ∧ Below w.heap.size w w' := by
 have hsz := B_size l
 have hi : (4000 : Int) < l.length := by omega
 unfold PV
 go_enter Tryz.func36, Tryz.ntmps36
 go_wp2
 exact bodyPost_ret (v := .tuple #[.agg #[.int .i64 0, .bool false, .bool false, .string ⟨#[]⟩, .int .i64 0], .int .i64 4]) (by simp only [results, Tryz.results36]; go_simp) rfl ⟨rfl, bgo⟩
theorem cut_fin (l : List UInt8) (w : World) (hl : l.length ≤ 4000) (hf : finB (sgR l) = true) :
  Calls Tryz.prog 36 #[.string (B l)] w fun e w' => e = .returned (.tuple #[PV 1 (gsgB l) false (finD (sgR l)) (finE (sgR l)), .int .i64 0]) ∧ Below w.heap.size w w' := by
 have hsz := B_size l
 have hi : (l.length : Int) ≤ 4000 := by omega
 have hsl := sgR_le l
 have c16 := fun w => lsign_any l w (by omega)
 have c17 := fun w => fin_eq (sgR l) w (by omega)
 rw [hf] at c17
 simp only [if_true] at c17
 unfold PV at c17 ⊢
 generalize finD (sgR l) = D at *
 generalize finE (sgR l) = E at *
 generalize gsgB l = z at *
 generalize sgR l = R at *
 have hsm : ∀ (W : World) (b i : Nat) (v : Value), (W.setCell ⟨b, i, none⟩ v).cell? ⟨b, i, none⟩ = (W.cell? ⟨b, i, none⟩).map fun _ => v := fun W b i v => gcell_set_map W b i v
 go_enter Tryz.func36, Tryz.ntmps36
 go_wp2_with (first | (go_at_call 85; refine (c16 _).mono ?_; rintro x w1 ⟨rfl, hb1⟩; obtain ⟨hc1, hf1, hz1_0, hl1_0, hA1, hs1⟩ := wz w hb1 w.heap.size; clear hb1) | (go_at_call 86; refine (c17 _).mono ?_; rintro x w2 ⟨rfl, hb2⟩; obtain ⟨hc2, hf2, hz2_0, hl2_0, hA2, hs2⟩ := wz w hb2 w.heap.size; clear hb2))
 exact bodyPost_ret (v := .tuple #[.agg #[.int .i64 1, .bool z, .bool false, .string (B D), .int .i64 E], .int .i64 0]) (by simp only [results, Tryz.results36]; go_simp) rfl ⟨rfl, bgo⟩
theorem cut_wo (l : List UInt8) (w : World) (hl : l.length ≤ 4000) (hf : finB (sgR l) = false) (C : Int) (G : Bool) (D : List UInt8) (hv : woV (sgR l) = PV C false G D 0) (hb : woB (sgR l) = true) :
  Calls Tryz.prog 36 #[.string (B l)] w fun e w' => e = .returned (.tuple #[PV C (gsgB l) G D 0, .int .i64 0]) ∧ Below w.heap.size w w' := by
 have hsz := B_size l
 have hi : (l.length : Int) ≤ 4000 := by omega
 have hsl := sgR_le l
 have c16 := fun w => lsign_any l w (by omega)
 have c17 := fun w => fin_eq (sgR l) w (by omega)
 have c18 := fun w => gword_any (sgR l) w (by omega)
 rw [hf] at c17
 rw [hv, hb] at c18
 simp only [Bool.false_eq_true, if_false] at c17
 unfold PV at c17 c18 ⊢
 clear hv hb hf
 generalize gsgB l = z at *
 generalize sgR l = R at *
 have hsm := gcell_set_map
 go_enter Tryz.func36, Tryz.ntmps36
 go_wp2_with (first | (go_at_call 85; refine (c16 _).mono ?_; rintro x w1 ⟨rfl, hb1⟩; obtain ⟨hc1, hf1, hz1_0, hl1_0, hA1, hs1⟩ := wz w hb1 w.heap.size; clear hb1) | (go_at_call 86; refine (c17 _).mono ?_; rintro x w2 ⟨rfl, hb2⟩; obtain ⟨hc2, hf2, hz2_0, hl2_0, hA2, hs2⟩ := wz w hb2 w.heap.size; clear hb2) | (go_at_call 87; refine (c18 _).mono ?_; rintro x w3 ⟨rfl, hb3⟩; obtain ⟨hc3, hf3, hz3_0, hl3_0, hA3, hs3⟩ := wz w hb3 w.heap.size; obtain ⟨hz3_1, hl3_1⟩ := zf hb3 w2.heap.size; clear hb3))
 exact bodyPost_ret (v := .tuple #[.agg #[.int .i64 C, .bool z, .bool G, .string (B D), .int .i64 0], .int .i64 0]) (by simp only [results, Tryz.results36]; go_simp) rfl ⟨rfl, bgo⟩
theorem cut_no (l : List UInt8) (w : World) (hl : l.length ≤ 4000) (hf : finB (sgR l) = false) (hv : woV (sgR l) = PV 0 false false [] 0) (hb : woB (sgR l) = false) :
  Calls Tryz.prog 36 #[.string (B l)] w fun e w' => e = .returned (.tuple #[PV 0 false false [] 0, .int .i64 2]) ∧ Below w.heap.size w w' := by
 have hsz := B_size l
 have hi : (l.length : Int) ≤ 4000 := by omega
 have hsl := sgR_le l
 have c16 := fun w => lsign_any l w (by omega)
 have c17 := fun w => fin_eq (sgR l) w (by omega)
 have c18 := fun w => gword_any (sgR l) w (by omega)
 rw [hf] at c17
 rw [hv, hb] at c18
 simp only [Bool.false_eq_true, if_false] at c17
 unfold PV at c17 c18 ⊢
 clear hv hb hf
 generalize gsgB l = z at *
 generalize sgR l = R at *
 have hsm := gcell_set_map
 go_enter Tryz.func36, Tryz.ntmps36
 go_wp2_with (first | (go_at_call 85; refine (c16 _).mono ?_; rintro x w1 ⟨rfl, hb1⟩; obtain ⟨hc1, hf1, hz1_0, hl1_0, hA1, hs1⟩ := wz w hb1 w.heap.size; clear hb1) | (go_at_call 86; refine (c17 _).mono ?_; rintro x w2 ⟨rfl, hb2⟩; obtain ⟨hc2, hf2, hz2_0, hl2_0, hA2, hs2⟩ := wz w hb2 w.heap.size; clear hb2) | (go_at_call 87; refine (c18 _).mono ?_; rintro x w3 ⟨rfl, hb3⟩; obtain ⟨hc3, hf3, hz3_0, hl3_0, hA3, hs3⟩ := wz w hb3 w.heap.size; obtain ⟨hz3_1, hl3_1⟩ := zf hb3 w2.heap.size; clear hb3))
 exact bodyPost_ret (v := .tuple #[.agg #[.int .i64 0, .bool false, .bool false, .string ⟨#[]⟩, .int .i64 0], .int .i64 2]) (by simp only [results, Tryz.results36]; go_simp) rfl ⟨rfl, bgo⟩
theorem cut_any (l : List UInt8) (w : World) (hs : l.length < 10001) :
  Calls Tryz.prog 36 #[.string (B l)] w fun e w' => e = .returned (.tuple #[(cutV l).v, .int .i64 (cutE l)]) ∧ Below w.heap.size w w' := by
 unfold cutV cutE cutP
 by_cases hl : 4000 < l.length
 ·rw [if_pos hl, if_pos hl]
  exact cut_long l w hs hl
 ·rw [if_neg hl, if_neg hl]
  unfold bodP
  by_cases hf : finB (sgR l) = true
  ·rw [if_pos hf]
   exact cut_fin l w (by omega) hf
  ·rw [if_neg hf]
   have hf' : finB (sgR l) = false := by simpa using hf
   by_cases h1 : infB (sml (sgR l)) = true
   ·rw [if_pos h1]
    exact cut_wo l w (by omega) hf' 2 false [] (by unfold woV; rw [if_pos h1]) (by unfold woB; rw [h1]; rfl)
   ·rw [if_neg h1]
    by_cases h2 : nanB (sml (sgR l)) = true
    ·rw [if_pos h2]
     exact cut_wo l w (by omega) hf' 3 _ _ (by unfold woV; rw [if_neg h1, if_pos h2]; rfl) (by unfold woB; rw [h2, Bool.or_true])
    ·rw [if_neg h2]
     exact cut_no l w (by omega) hf' (by unfold woV; rw [if_neg h1, if_neg h2]) (by unfold woB; rw [show infB (sml (sgR l)) = false by simpa using h1, show nanB (sml (sgR l)) = false by simpa using h2]; rfl)
theorem u8_all {p : UInt8 → Bool} (h : ∀ v, v < 256 → p (UInt8.ofNat v) = true) (y : UInt8) : p y = true := by
 have := h y.toNat y.toNat_lt
 rwa [UInt8.ofNat_toNat] at this
def hxc (y : UInt8) : Bool := hxB (sm y)
def hxAll : List UInt8 := [48, 49, 50, 51, 52, 53, 54, 55, 56, 57, 97, 98, 99, 100, 101, 102, 65, 66, 67, 68, 69, 70]
theorem hxc_mem (y : UInt8) : hxAll.contains y = hxc y := by
 have := u8_all (p := fun y => hxAll.contains y == hxc y) (by decide +kernel) y
 simpa using this
theorem dg_sm (y : UInt8) : dg (sm y) = dg y := by
 have := u8_all (p := fun y => dg (sm y) == dg y) (by decide +kernel) y
 simpa using this
theorem sm_dg {y : UInt8} (h : dg y = true) : sm y = y := by
 have := u8_all (p := fun y => !dg y || sm y == y) (by decide +kernel) y
 simpa [h] using this
theorem sm_120 (y : UInt8) : sm y = 120 ↔ y = 120 ∨ y = 88 := by
 have := u8_all (p := fun y => decide (sm y = 120) == decide (y = 120 ∨ y = 88)) (by decide +kernel) y
 exact decide_eq_decide.1 (eq_of_beq this)
theorem sm_112 (y : UInt8) : sm y = 112 ↔ y = 112 ∨ y = 80 := by
 have := u8_all (p := fun y => decide (sm y = 112) == decide (y = 112 ∨ y = 80)) (by decide +kernel) y
 exact decide_eq_decide.1 (eq_of_beq this)
theorem sm_46 (y : UInt8) : sm y = 46 ↔ y = 46 := by
 have := u8_all (p := fun y => decide (sm y = 46) == decide (y = 46)) (by decide +kernel) y
 exact decide_eq_decide.1 (eq_of_beq this)
theorem sm_48 (y : UInt8) : sm y = 48 ↔ y = 48 := by
 have := u8_all (p := fun y => decide (sm y = 48) == decide (y = 48)) (by decide +kernel) y
 exact decide_eq_decide.1 (eq_of_beq this)
theorem sml_cons (y : UInt8) (z : List UInt8) : sml (y :: z) = sm y :: sml z := rfl
theorem sml_nil : sml [] = [] := rfl
theorem sml_app (a b : List UInt8) : sml (a ++ b) = sml a ++ sml b := by unfold sml; exact List.map_append
theorem gsgB_sml (l : List UInt8) : gsgB (sml l) = gsgB l := by
 cases l with
 | nil => rfl
 | cons c r =>
  show decide (((sm c).toNat : Int) = 45) = decide ((c.toNat : Int) = 45)
  rw [decide_eq_decide, sm_nat]
  split <;> omega
theorem sgR_sml (l : List UInt8) : sgR (sml l) = sml (sgR l) := by
 cases l with
 | nil => rfl
 | cons c r =>
  rw [sml_cons]
  have e := sm_nat c
  show (if ((sm c).toNat : Int) = 45 ∨ ((sm c).toNat : Int) = 43 then sml r else sm c :: sml r) = sml (if (c.toNat : Int) = 45 ∨ (c.toNat : Int) = 43 then r else c :: r)
  by_cases h : (c.toNat : Int) = 45 ∨ (c.toNat : Int) = 43
  ·rw [if_pos h, if_pos (by rw [e, if_neg (by omega)]; exact h)]
  ·rw [if_neg h, if_neg (by rw [e]; split <;> omega)]
   rfl
theorem sml_tw (l : List UInt8) : (sml l).takeWhile hxB = sml (l.takeWhile hxc) := by
 unfold sml
 rw [List.takeWhile_map]
 rfl
theorem sml_dw (l : List UInt8) : (sml l).dropWhile hxB = sml (l.dropWhile hxc) := by
 unfold sml
 rw [List.dropWhile_map]
 rfl
theorem isd_sml (l : List UInt8) : isd (sml l) = isd l := by
 unfold isd sml
 rw [List.all_map]
 have : (dg ∘ sm) = dg := funext dg_sm
 rw [this]
 cases l <;> rfl
theorem sml_dig {l : List UInt8} (h : l.all dg = true) : sml l = l := by
 induction l with
 | nil => rfl
 | cons c r ih =>
  rw [List.all_cons, Bool.and_eq_true] at h
  rw [sml_cons, ih h.2, sm_dg h.1]
theorem exS_sml {z : List UInt8} (h : isd (sgR z) = true) : exS (sml z) = exS z := by
 unfold exS
 rw [gsgB_sml, sgR_sml, sml_dig (isd_all h)]
def hpx : List UInt8 → Option Int
 | [] => none
 | y :: z => if (y = 112 ∨ y = 80) ∧ isd (sgR z) = true then some (clampE (exS z)) else none
theorem finB_0e (z : List UInt8) : finB (48 :: 101 :: z) = isd (sgR z) ∧ finE (48 :: 101 :: z) = (if isd (sgR z) then clampE (exS z) else 0) := by
 have e1 : dgs (48 :: 101 :: z) = [48] := rfl
 have e2 : rst (48 :: 101 :: z) = 101 :: z := rfl
 have e3 : Lib.hasPrefix (101 :: z) [46] = false := rfl
 have e4 : frac (48 :: 101 :: z) = [] := by unfold frac; rw [e2, e3]; rfl
 have e5 : behind (48 :: 101 :: z) = 101 :: z := by unfold behind; rw [e2, e3]; rfl
 have e6 : exB (101 :: z) = isd (sgR z) := by
  show (true && isd (sgR z)) = _
  rw [Bool.true_and]
 refine ⟨?_, ?_⟩
 ·unfold finB
  rw [e1, e4, e5, e6]
  simp
 ·unfold finE
  rw [e5, e4]
  show clampE ((if exB (101 :: z) = true then exS z else 0) - (([] : List UInt8).length : Int)) = _
  rw [e6]
  by_cases h : isd (sgR z) = true
  ·rw [if_pos h, if_pos h]
   simp
  ·rw [if_neg h, if_neg h]
   rfl
theorem bodP_0 (g : Bool) {y : UInt8} {z : List UInt8} (h : finB (48 :: y :: z) = false) : bodP g (48 :: y :: z) = none := by
 unfold bodP
 rw [h]
 have e1 : infB (sml (48 :: y :: z)) = false := rfl
 have e2 : nanB (sml (48 :: y :: z)) = false := rfl
 rw [e1, e2]
 rfl
theorem cut_0e {z : List UInt8} (h : z.length ≤ 3998) : cutP (48 :: 101 :: z) = if isd (sgR z) then some ⟨1, false, false, finD (48 :: 101 :: z), clampE (exS z)⟩ else none := by
 unfold cutP
 rw [if_neg (by simp only [List.length_cons]; omega)]
 have e1 : gsgB (48 :: 101 :: z) = false := rfl
 have e2 : sgR (48 :: 101 :: z) = 48 :: 101 :: z := rfl
 obtain ⟨f1, f2⟩ := finB_0e z
 rw [e1, e2]
 by_cases hi : isd (sgR z) = true
 ·rw [if_pos hi]
  unfold bodP
  rw [f1, hi, if_pos rfl, f2, if_pos hi]
 ·rw [if_neg hi]
  exact bodP_0 _ (by rw [f1]; simpa using hi)
theorem cut_0x {l a : List UInt8} (ht : sgR (sml l) = 48 :: 120 :: a) : cutP l = none := by
 unfold cutP
 by_cases hl : 4000 < l.length
 ·rw [if_pos hl]
 rw [if_neg hl]
 rw [sgR_sml] at ht
 cases hs : sgR l with
 | nil => rw [hs] at ht; cases ht
 | cons c r =>
  rw [hs, sml_cons] at ht
  cases r with
  | nil => simp [sml_nil] at ht
  | cons y z =>
   rw [sml_cons] at ht
   injection ht with h1 h2
   injection h2 with h2 h3
   rw [sm_48] at h1
   rw [sm_120] at h2
   subst h1
   refine bodP_0 _ ?_
   have d1 : dg y = false := by rcases h2 with h2 | h2 <;> rw [h2] <;> rfl
   have e1 : rst (48 :: y :: z) = y :: z := by
    unfold rst
    rw [List.dropWhile_cons_of_pos rfl, List.dropWhile_cons_of_neg (by rw [d1]; decide)]
   have e3 : Lib.hasPrefix (y :: z) [46] = false := by rcases h2 with h2 | h2 <;> rw [h2] <;> rfl
   have e5 : behind (48 :: y :: z) = y :: z := by unfold behind; rw [e1, e3]; rfl
   have e6 : exB (y :: z) = false := by
    rcases h2 with h2 | h2 <;> rw [h2] <;> rfl
   unfold finB
   rw [e5, e6]
   rfl
def pxF (r : List UInt8) : List UInt8 := if Lib.hasPrefix r [46] then (Lib.trimPrefix r [46]).takeWhile hxc else []
def pxR (r : List UInt8) : List UInt8 := if Lib.hasPrefix r [46] then (Lib.trimPrefix r [46]).dropWhile hxc else r
theorem pre46 (y : UInt8) (z : List UInt8) : Lib.hasPrefix (y :: z) [46] = decide (y = 46) := by
 unfold Lib.hasPrefix
 by_cases h : y = 46
 ·rw [h]; rfl
 ·rw [decide_eq_false h]
  simp [List.isPrefixOf]
  exact fun e => h e.symm
theorem trim46 (z : List UInt8) : Lib.trimPrefix (46 :: z) [46] = z := by
 unfold Lib.trimPrefix
 rw [pre46, decide_eq_true rfl]
 rfl
end Go.Proofs.YtplocajjfoiklaaGreatDoor

namespace Go.Proofs
open Go.Shelf Go.RowKit
def Tryz.lays162_ren : Go.Shelf.Ren := ⟨fun | 162 => 121 | 232 => 162 | 227 => 163 | 234 => 164 | 236 => 165 | 228 => 201 | 271 => 202 | 151 => 203 | 120 => 232 | 197 => 209 | 152 => 233 | 260 => 236 | 137 => 244 | 119 => 245 | 224 => 246 | 225 => 247 | 217 => 249 | 266 => 251 | n => n, fun | 9 => 9 | 4 => 4 | 3 => 3 | 5 => 5 | 117 => 183 | 116 => 182 | 0 => 0 | 124 => 186 | 21 => 21 | 105 => 217 | 46 => 35 | 119 => 255 | 139 => 258 | 138 => 257 | n => n, fun | 3 => 8 | 4 => 9 | n => n⟩
theorem Tryz.lays162 : Go.Proofs.Lays.n162 Tryz.prog Tryz.lays162_ren := {
 mixed := by kernel_rfl
 f119 := Tryz.func245.trans (congrArg some (by kernel_rfl))
 f120 := Tryz.func232.trans (congrArg some (by kernel_rfl))
 f137 := Tryz.func244.trans (congrArg some (by kernel_rfl))
 f151 := Tryz.func203.trans (congrArg some (by kernel_rfl))
 f152 := Tryz.func233.trans (congrArg some (by kernel_rfl))
 f162 := Tryz.func121.trans (congrArg some (by kernel_rfl))
 f197 := Tryz.func209.trans (congrArg some (by kernel_rfl))
 f217 := Tryz.func249.trans (congrArg some (by kernel_rfl))
 f224 := Tryz.func246.trans (congrArg some (by kernel_rfl))
 f225 := Tryz.func247.trans (congrArg some (by kernel_rfl))
 f227 := Tryz.func163.trans (congrArg some (by kernel_rfl))
 f228 := Tryz.func201.trans (congrArg some (by kernel_rfl))
 f232 := Tryz.func162.trans (congrArg some (by kernel_rfl))
 f234 := Tryz.func164.trans (congrArg some (by kernel_rfl))
 f236 := Tryz.func165.trans (congrArg some (by kernel_rfl))
 f260 := Tryz.func236.trans (congrArg some (by kernel_rfl))
 f266 := Tryz.func251.trans (congrArg some (by kernel_rfl))
 f271 := Tryz.func202.trans (congrArg some (by kernel_rfl))
 t0 := Tryz.underlying0
 a0 := Tryz.isAgg0
 z0 := Tryz.sizeOf0
 v0 := Tryz.zeroValue0
 t3 := Tryz.underlying3
 a3 := Tryz.isAgg3
 z3 := Tryz.sizeOf3
 v3 := Tryz.zeroValue3
 t4 := Tryz.underlying4
 a4 := Tryz.isAgg4
 z4 := Tryz.sizeOf4
 v4 := Tryz.zeroValue4
 t5 := Tryz.underlying5
 a5 := Tryz.isAgg5
 z5 := Tryz.sizeOf5
 v5 := Tryz.zeroValue5
 t9 := Tryz.underlying9
 a9 := Tryz.isAgg9
 z9 := Tryz.sizeOf9
 v9 := Tryz.zeroValue9
 t21 := Tryz.underlying21
 a21 := Tryz.isAgg21
 z21 := Tryz.sizeOf21
 v21 := Tryz.zeroValue21
 t46 := Tryz.underlying35
 a46 := Tryz.isAgg35
 z46 := Tryz.sizeOf35
 v46 := Tryz.zeroValue35
 t105 := Tryz.underlying217
 a105 := Tryz.isAgg217
 z105 := Tryz.sizeOf217
 v105 := Tryz.zeroValue217
 t116 := Tryz.underlying182
 a116 := Tryz.isAgg182
 z116 := Tryz.sizeOf182
 t117 := Tryz.underlying183
 a117 := Tryz.isAgg183
 z117 := Tryz.sizeOf183
 v117 := Tryz.zeroValue183
 t119 := Tryz.underlying255
 a119 := Tryz.isAgg255
 z119 := Tryz.sizeOf255
 t124 := Tryz.underlying186
 a124 := Tryz.isAgg186
 z124 := Tryz.sizeOf186
 v124 := Tryz.zeroValue186
 t138 := Tryz.underlying257
 a138 := Tryz.isAgg257
 z138 := Tryz.sizeOf257
 v138 := Tryz.zeroValue257
 t139 := Tryz.underlying258
 a139 := Tryz.isAgg258
 z139 := Tryz.sizeOf258
 v139 := Tryz.zeroValue258
 g3 := by kernel_rfl
 g4 := by kernel_rfl }
theorem Tryz.strings_TrimRight_one (s : ByteArray) (c : UInt8) (hc : c.toNat < 128) (w : World) (hs : s.size ≤ 9223372036854775807) :
  Calls Tryz.prog 121 #[.string s, .string ⟨#[c]⟩] w fun e w' => e = .returned (.string ⟨(Lib.trimRightB s.data.toList c).toArray⟩) ∧ w' = w := Any.strings_TrimRight_one Tryz.lays162 s c hc w hs
end Go.Proofs
