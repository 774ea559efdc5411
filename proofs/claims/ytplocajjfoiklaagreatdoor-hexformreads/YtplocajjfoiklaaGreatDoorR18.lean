/-
  Texts that the proof leans on, joined: Gl, Gn.
-/
import Derived.Test.YtplocajjfoiklaaGreatDoorR16
import Derived.Test.YtplocajjfoiklaaGreatDoorR1
import Derived.Test.YtplocajjfoiklaaGreatDoorR17
set_option maxHeartbeats 8000000
set_option linter.unusedVariables false
set_option linter.unusedSimpArgs false
set_option linter.unusedSectionVars false
set_option maxRecDepth 20000
namespace Go.Proofs.YtplocajjfoiklaaGreatDoor
open Go.RowKit
theorem rcut_nk1x (l : List UInt8) (w : World) (hl : l.length ≤ 4000) (z : Bool) (R T : List UInt8) (x : UInt8) (xs : List UInt8) (hX : xs.length + 1 < 4001) (c : UInt8) (r : List UInt8) (hr : r.length < 4001) (hc46 : (c.toNat : Int) ≠ 46) (hc1 : (c.toNat : Int) ≠ 101) (hc2 : (c.toNat : Int) ≠ 69)
  (c19 : ∀ w, Calls Tryz.prog 38 #[.string (B l)] w fun e w' => e = .returned (.tuple #[.bool z, .string (B R)]) ∧ Below w.heap.size w w')
  (c20 : ∀ w, Calls Tryz.prog 92 #[.string (B R)] w fun e w' => e = .returned (.tuple #[.agg #[.int .i64 0, .bool false, .bool false, .string ⟨#[]⟩, .int .i64 0], .bool false]) ∧ Below w.heap.size w w')
  (c21 : ∀ w, Calls Tryz.prog 93 #[.string (B R)] w fun e w' => e = .returned (.tuple #[.string (B (x :: xs)), .string (B (c :: r))]) ∧ Below w.heap.size w w') :
  Calls Tryz.prog 40 #[.string (B l)] w fun e w' => e = .returned (.tuple #[.agg #[.int .i64 0, .bool false, .bool false, .string ⟨#[]⟩, .int .i64 0], .int .i64 2]) ∧ Below w.heap.size w w' := by
 have hsz := B_size l
 have hi : (l.length : Int) ≤ 4000 := by omega
 have htl := B_toList
 have hsm := gcell_set_map
 have hszQ : (B (c :: r)).size = r.length + 1 := rfl
 have hfs := B_first c r (by omega)
 have htq : (B (c :: r)).extract 1 (r.length + 1) = B r := B_tail c r
 have hcb := c.toNat_lt
 have h46 : ((c.toNat : Int) == 46) = false := beq_eq_false_iff_ne.2 hc46
 have g1 : ((c.toNat : Int) != 101) = true := by simpa using hc1
 have g2 : ((c.toNat : Int) != 69) = true := by simpa using hc2
 go_enter Tryz.func40, Tryz.ntmps40
 go_wp2_with (first | (go_at_call 38; refine (c19 _).mono ?_; rintro x w1 ⟨rfl, hb1⟩; obtain ⟨hc1, hf1, hz1_0, hl1_0, hA1, hs1⟩ := wz w hb1 w.heap.size; clear hb1) | (go_at_call 92; refine (c20 _).mono ?_; rintro x w2 ⟨rfl, hb2⟩; obtain ⟨hc2, hf2, hz2_0, hl2_0, hA2, hs2⟩ := wz w hb2 w.heap.size; clear hb2) | (go_at_call 93; refine (c21 _).mono ?_; rintro x w3 ⟨rfl, hb3⟩; obtain ⟨hc3, hf3, hz3_0, hl3_0, hA3, hs3⟩ := wz w hb3 w.heap.size; clear hb3))
 exact bodyPost_ret (v := .tuple #[.agg #[.int .i64 0, .bool false, .bool false, .string ⟨#[]⟩, .int .i64 0], .int .i64 2]) (by simp only [results, Tryz.results40]; go_simp) rfl ⟨rfl, bgo⟩
theorem rcut_nk1z (l : List UInt8) (w : World) (hl : l.length ≤ 4000) (z : Bool) (R T : List UInt8) (Q : List UInt8) (c : UInt8) (r : List UInt8) (hQ : Q = c :: r) (hc46 : (c.toNat : Int) ≠ 46)
  (c19 : ∀ w, Calls Tryz.prog 38 #[.string (B l)] w fun e w' => e = .returned (.tuple #[.bool z, .string (B R)]) ∧ Below w.heap.size w w')
  (c20 : ∀ w, Calls Tryz.prog 92 #[.string (B R)] w fun e w' => e = .returned (.tuple #[.agg #[.int .i64 0, .bool false, .bool false, .string ⟨#[]⟩, .int .i64 0], .bool false]) ∧ Below w.heap.size w w')
  (c21 : ∀ w, Calls Tryz.prog 93 #[.string (B R)] w fun e w' => e = .returned (.tuple #[.string (B []), .string (B Q)]) ∧ Below w.heap.size w w') :
  Calls Tryz.prog 40 #[.string (B l)] w fun e w' => e = .returned (.tuple #[.agg #[.int .i64 0, .bool false, .bool false, .string ⟨#[]⟩, .int .i64 0], .int .i64 2]) ∧ Below w.heap.size w w' := by
 have hsz := B_size l
 have hi : (l.length : Int) ≤ 4000 := by omega
 have htl := B_toList
 have hsm := gcell_set_map
 have h46 : ((c.toNat : Int) == 46) = false := beq_eq_false_iff_ne.2 hc46
 subst hQ
 have hszQ : (B (c :: r)).size = r.length + 1 := rfl
 have hfs := B_first c r (by omega)
 have hcb := c.toNat_lt
 go_enter Tryz.func40, Tryz.ntmps40
 go_wp2_with (first | (go_at_call 38; refine (c19 _).mono ?_; rintro x w1 ⟨rfl, hb1⟩; obtain ⟨hc1, hf1, hz1_0, hl1_0, hA1, hs1⟩ := wz w hb1 w.heap.size; clear hb1) | (go_at_call 92; refine (c20 _).mono ?_; rintro x w2 ⟨rfl, hb2⟩; obtain ⟨hc2, hf2, hz2_0, hl2_0, hA2, hs2⟩ := wz w hb2 w.heap.size; clear hb2) | (go_at_call 93; refine (c21 _).mono ?_; rintro x w3 ⟨rfl, hb3⟩; obtain ⟨hc3, hf3, hz3_0, hl3_0, hA3, hs3⟩ := wz w hb3 w.heap.size; clear hb3))
 exact bodyPost_ret (v := .tuple #[.agg #[.int .i64 0, .bool false, .bool false, .string ⟨#[]⟩, .int .i64 0], .int .i64 2]) (by simp only [results, Tryz.results40]; go_simp) rfl ⟨rfl, bgo⟩
theorem rcut_nk2x (l : List UInt8) (w : World) (hl : l.length ≤ 4000) (z : Bool) (R T : List UInt8) (x : UInt8) (xs : List UInt8) (hX : xs.length + 1 < 4001) (c : UInt8) (r : List UInt8) (hr : r.length < 4001) (hc46 : (c.toNat : Int) ≠ 46) (hc : (c.toNat : Int) = 101 ∨ (c.toNat : Int) = 69) (E : Int)
  (c19 : ∀ w, Calls Tryz.prog 38 #[.string (B l)] w fun e w' => e = .returned (.tuple #[.bool z, .string (B R)]) ∧ Below w.heap.size w w')
  (c20 : ∀ w, Calls Tryz.prog 92 #[.string (B R)] w fun e w' => e = .returned (.tuple #[.agg #[.int .i64 0, .bool false, .bool false, .string ⟨#[]⟩, .int .i64 0], .bool false]) ∧ Below w.heap.size w w')
  (c21 : ∀ w, Calls Tryz.prog 93 #[.string (B R)] w fun e w' => e = .returned (.tuple #[.string (B (x :: xs)), .string (B (c :: r))]) ∧ Below w.heap.size w w')
  (c22 : ∀ w, Calls Tryz.prog 43 #[.string (B r)] w fun e w' => e = .returned (.tuple #[.int .i64 E, .bool false]) ∧ Below w.heap.size w w') :
  Calls Tryz.prog 40 #[.string (B l)] w fun e w' => e = .returned (.tuple #[.agg #[.int .i64 0, .bool false, .bool false, .string ⟨#[]⟩, .int .i64 0], .int .i64 2]) ∧ Below w.heap.size w w' := by
 have hsz := B_size l
 have hi : (l.length : Int) ≤ 4000 := by omega
 have htl := B_toList
 have hsm := gcell_set_map
 have hszQ : (B (c :: r)).size = r.length + 1 := rfl
 have hfs := B_first c r (by omega)
 have htq : (B (c :: r)).extract 1 (r.length + 1) = B r := B_tail c r
 have hcb := c.toNat_lt
 have h46 : ((c.toNat : Int) == 46) = false := beq_eq_false_iff_ne.2 hc46
 rcases hc with h | h
 all_goals
  go_enter Tryz.func40, Tryz.ntmps40
  go_wp2_with (first | (go_at_call 38; refine (c19 _).mono ?_; rintro x w1 ⟨rfl, hb1⟩; obtain ⟨hc1, hf1, hz1_0, hl1_0, hA1, hs1⟩ := wz w hb1 w.heap.size; clear hb1) | (go_at_call 92; refine (c20 _).mono ?_; rintro x w2 ⟨rfl, hb2⟩; obtain ⟨hc2, hf2, hz2_0, hl2_0, hA2, hs2⟩ := wz w hb2 w.heap.size; clear hb2) | (go_at_call 93; refine (c21 _).mono ?_; rintro x w3 ⟨rfl, hb3⟩; obtain ⟨hc3, hf3, hz3_0, hl3_0, hA3, hs3⟩ := wz w hb3 w.heap.size; clear hb3) | (go_at_call 43; refine (c22 _).mono ?_; rintro x w5 ⟨rfl, hb5⟩; obtain ⟨hc5, hf5, hz5_0, hl5_0, hA5, hs5⟩ := wz w hb5 w.heap.size; clear hb5))
  exact bodyPost_ret (v := .tuple #[.agg #[.int .i64 0, .bool false, .bool false, .string ⟨#[]⟩, .int .i64 0], .int .i64 2]) (by simp only [results, Tryz.results40]; go_simp) rfl ⟨rfl, bgo⟩
theorem rcut_nk3x (l : List UInt8) (w : World) (hl : l.length ≤ 4000) (z : Bool) (R T : List UInt8) (x : UInt8) (xs : List UInt8) (hX : xs.length + 1 < 4001) (c : UInt8) (r : List UInt8) (hr : r.length < 4001) (hc46 : (c.toNat : Int) ≠ 46) (hc : (c.toNat : Int) = 101 ∨ (c.toNat : Int) = 69) (E : Int) (D : List UInt8)
  (c19 : ∀ w, Calls Tryz.prog 38 #[.string (B l)] w fun e w' => e = .returned (.tuple #[.bool z, .string (B R)]) ∧ Below w.heap.size w w')
  (c20 : ∀ w, Calls Tryz.prog 92 #[.string (B R)] w fun e w' => e = .returned (.tuple #[.agg #[.int .i64 0, .bool false, .bool false, .string ⟨#[]⟩, .int .i64 0], .bool false]) ∧ Below w.heap.size w w')
  (c21 : ∀ w, Calls Tryz.prog 93 #[.string (B R)] w fun e w' => e = .returned (.tuple #[.string (B (x :: xs)), .string (B (c :: r))]) ∧ Below w.heap.size w w')
  (c22 : ∀ w, Calls Tryz.prog 43 #[.string (B r)] w fun e w' => e = .returned (.tuple #[.int .i64 E, .bool true]) ∧ Below w.heap.size w w') (hE : -2000000000 ≤ E ∧ E ≤ 2000000000)
  (c23 : ∀ w, Calls Tryz.prog 94 #[.string (B ((x :: xs)))] w fun e w' => e = .returned (.string (B D)) ∧ Below w.heap.size w w') :
  Calls Tryz.prog 40 #[.string (B l)] w fun e w' => e = .returned (.tuple #[.agg #[.int .i64 1, .bool z, .bool false, .string (B D), .int .i64 (min (max E (-1000000000)) 1000000000)], .int .i64 0]) ∧ Below w.heap.size w w' := by
 have hsz := B_size l
 have hi : (l.length : Int) ≤ 4000 := by omega
 have htl := B_toList
 have hsm := gcell_set_map
 have hszQ : (B (c :: r)).size = r.length + 1 := rfl
 have hfs := B_first c r (by omega)
 have htq : (B (c :: r)).extract 1 (r.length + 1) = B r := B_tail c r
 have hcb := c.toNat_lt
 have h46 : ((c.toNat : Int) == 46) = false := beq_eq_false_iff_ne.2 hc46
 have hap := B_app (x :: xs) []
 rw [List.append_nil] at hap
 have hXs : (B (x :: xs)).size < 4001 := hX
 have hFs : (B []).size = 0 := rfl
 have hn0 : (⟨#[]⟩ : ByteArray).size = 0 := rfl
 change B (x :: xs) ++ ⟨#[]⟩ = _ at hap
 rcases hc with h | h
 all_goals
  go_enter Tryz.func40, Tryz.ntmps40
  go_wp2_with (first | (go_at_call 38; refine (c19 _).mono ?_; rintro x w1 ⟨rfl, hb1⟩; obtain ⟨hc1, hf1, hz1_0, hl1_0, hA1, hs1⟩ := wz w hb1 w.heap.size; clear hb1) | (go_at_call 92; refine (c20 _).mono ?_; rintro x w2 ⟨rfl, hb2⟩; obtain ⟨hc2, hf2, hz2_0, hl2_0, hA2, hs2⟩ := wz w hb2 w.heap.size; clear hb2) | (go_at_call 93; refine (c21 _).mono ?_; rintro x w3 ⟨rfl, hb3⟩; obtain ⟨hc3, hf3, hz3_0, hl3_0, hA3, hs3⟩ := wz w hb3 w.heap.size; clear hb3) | (go_at_call 43; refine (c22 _).mono ?_; rintro x w5 ⟨rfl, hb5⟩; obtain ⟨hc5, hf5, hz5_0, hl5_0, hA5, hs5⟩ := wz w hb5 w.heap.size; clear hb5) | (go_at_call 94; refine (c23 _).mono ?_; rintro x w6 ⟨rfl, hb6⟩; obtain ⟨hc6, hf6, hz6_0, hl6_0, hA6, hs6⟩ := wz w hb6 w.heap.size; clear hb6))
  exact bodyPost_ret (v := .tuple #[.agg #[.int .i64 1, .bool z, .bool false, .string (B D), .int .i64 (min (max E (-1000000000)) 1000000000)], .int .i64 0]) (by simp only [results, Tryz.results40]; go_simp) rfl ⟨rfl, bgo⟩
theorem rcut_ok0x (l : List UInt8) (w : World) (hl : l.length ≤ 4000) (z : Bool) (R T : List UInt8) (x : UInt8) (xs : List UInt8) (hX : xs.length + 1 < 4001) (D : List UInt8)
  (c19 : ∀ w, Calls Tryz.prog 38 #[.string (B l)] w fun e w' => e = .returned (.tuple #[.bool z, .string (B R)]) ∧ Below w.heap.size w w')
  (c20 : ∀ w, Calls Tryz.prog 92 #[.string (B R)] w fun e w' => e = .returned (.tuple #[.agg #[.int .i64 0, .bool false, .bool false, .string ⟨#[]⟩, .int .i64 0], .bool false]) ∧ Below w.heap.size w w')
  (c21 : ∀ w, Calls Tryz.prog 93 #[.string (B R)] w fun e w' => e = .returned (.tuple #[.string (B (x :: xs)), .string (B [])]) ∧ Below w.heap.size w w')
  (c23 : ∀ w, Calls Tryz.prog 94 #[.string (B ((x :: xs)))] w fun e w' => e = .returned (.string (B D)) ∧ Below w.heap.size w w') :
  Calls Tryz.prog 40 #[.string (B l)] w fun e w' => e = .returned (.tuple #[.agg #[.int .i64 1, .bool z, .bool false, .string (B D), .int .i64 (min (max 0 (-1000000000)) 1000000000)], .int .i64 0]) ∧ Below w.heap.size w w' := by
 have hsz := B_size l
 have hi : (l.length : Int) ≤ 4000 := by omega
 have htl := B_toList
 have hsm := gcell_set_map
 have hszQ : (B []).size = 0 := rfl
 have hap := B_app (x :: xs) []
 rw [List.append_nil] at hap
 have hXs : (B (x :: xs)).size < 4001 := hX
 have hFs : (B []).size = 0 := rfl
 have hn0 : (⟨#[]⟩ : ByteArray).size = 0 := rfl
 change B (x :: xs) ++ ⟨#[]⟩ = _ at hap
 go_enter Tryz.func40, Tryz.ntmps40
 go_wp2_with (first | (go_at_call 38; refine (c19 _).mono ?_; rintro x w1 ⟨rfl, hb1⟩; obtain ⟨hc1, hf1, hz1_0, hl1_0, hA1, hs1⟩ := wz w hb1 w.heap.size; clear hb1) | (go_at_call 92; refine (c20 _).mono ?_; rintro x w2 ⟨rfl, hb2⟩; obtain ⟨hc2, hf2, hz2_0, hl2_0, hA2, hs2⟩ := wz w hb2 w.heap.size; clear hb2) | (go_at_call 93; refine (c21 _).mono ?_; rintro x w3 ⟨rfl, hb3⟩; obtain ⟨hc3, hf3, hz3_0, hl3_0, hA3, hs3⟩ := wz w hb3 w.heap.size; clear hb3) | (go_at_call 94; refine (c23 _).mono ?_; rintro x w6 ⟨rfl, hb6⟩; obtain ⟨hc6, hf6, hz6_0, hl6_0, hA6, hs6⟩ := wz w hb6 w.heap.size; clear hb6))
 exact bodyPost_ret (v := .tuple #[.agg #[.int .i64 1, .bool z, .bool false, .string (B D), .int .i64 (min (max 0 (-1000000000)) 1000000000)], .int .i64 0]) (by simp only [results, Tryz.results40]; go_simp) rfl ⟨rfl, bgo⟩
theorem rcut_ok0z (l : List UInt8) (w : World) (hl : l.length ≤ 4000) (z : Bool) (R T : List UInt8)
  (c19 : ∀ w, Calls Tryz.prog 38 #[.string (B l)] w fun e w' => e = .returned (.tuple #[.bool z, .string (B R)]) ∧ Below w.heap.size w w')
  (c20 : ∀ w, Calls Tryz.prog 92 #[.string (B R)] w fun e w' => e = .returned (.tuple #[.agg #[.int .i64 0, .bool false, .bool false, .string ⟨#[]⟩, .int .i64 0], .bool false]) ∧ Below w.heap.size w w')
  (c21 : ∀ w, Calls Tryz.prog 93 #[.string (B R)] w fun e w' => e = .returned (.tuple #[.string (B []), .string (B [])]) ∧ Below w.heap.size w w') :
  Calls Tryz.prog 40 #[.string (B l)] w fun e w' => e = .returned (.tuple #[.agg #[.int .i64 0, .bool false, .bool false, .string ⟨#[]⟩, .int .i64 0], .int .i64 2]) ∧ Below w.heap.size w w' := by
 have hsz := B_size l
 have hi : (l.length : Int) ≤ 4000 := by omega
 have htl := B_toList
 have hsm := gcell_set_map
 have hszQ : (B []).size = 0 := rfl
 go_enter Tryz.func40, Tryz.ntmps40
 go_wp2_with (first | (go_at_call 38; refine (c19 _).mono ?_; rintro x w1 ⟨rfl, hb1⟩; obtain ⟨hc1, hf1, hz1_0, hl1_0, hA1, hs1⟩ := wz w hb1 w.heap.size; clear hb1) | (go_at_call 92; refine (c20 _).mono ?_; rintro x w2 ⟨rfl, hb2⟩; obtain ⟨hc2, hf2, hz2_0, hl2_0, hA2, hs2⟩ := wz w hb2 w.heap.size; clear hb2) | (go_at_call 93; refine (c21 _).mono ?_; rintro x w3 ⟨rfl, hb3⟩; obtain ⟨hc3, hf3, hz3_0, hl3_0, hA3, hs3⟩ := wz w hb3 w.heap.size; clear hb3))
 exact bodyPost_ret (v := .tuple #[.agg #[.int .i64 0, .bool false, .bool false, .string ⟨#[]⟩, .int .i64 0], .int .i64 2]) (by simp only [results, Tryz.results40]; go_simp) rfl ⟨rfl, bgo⟩
theorem wo_zero {s : List UInt8} (h : woB s = false) : woV s = PV 0 false false [] 0 := by
 unfold woB at h
 rw [Bool.or_eq_false_iff] at h
 unfold woV; rw [h.1, h.2]; rfl
theorem fin_head {r : List UInt8} (h : finB r = true) : ∃ c t, r = c :: t ∧ ((c.toNat : Int) = 46 ∨ (48 ≤ (c.toNat : Int) ∧ (c.toNat : Int) ≤ 57)) := by
 unfold finB at h
 rw [Bool.and_eq_true] at h
 cases r with
 | nil => exact absurd h.2 (by decide)
 | cons c t =>
  refine ⟨c, t, rfl, ?_⟩
  by_cases hd : dg c = true
  ·unfold dg at hd; simp at hd; right; omega
  ·have e1 : dgs (c :: t) = [] := by unfold dgs; rw [List.takeWhile_cons, if_neg hd]
   have e2 : rst (c :: t) = c :: t := by unfold rst; rw [List.dropWhile_cons, if_neg hd]
   rw [e1] at h
   have h2 := h.2
   unfold frac at h2
   rw [e2, hp_one] at h2
   by_cases e : (46 == c) = true
   ·have : (46 : UInt8) = c := by simpa using e
    subst this; left; rfl
   ·rw [if_neg e] at h2; exact absurd h2 (by decide)
theorem fin_not_wo {r : List UInt8} (h : finB r = true) : woB r = false := by
 obtain ⟨c, t, rfl, hc⟩ := fin_head h
 have e : sml (c :: t) = c :: sml t := by
  show sm c :: sml t = _
  congr 1
  unfold sm; rw [if_neg (by omega)]
 unfold woB
 rw [e]
 have h1 : infB (c :: sml t) = false := inf_no (by intro h; rw [(List.cons.inj h).1] at hc; revert hc; decide) (by intro h; rw [(List.cons.inj h).1] at hc; revert hc; decide)
 have hp : Lib.hasPrefix (c :: sml t) [115] = false := by rw [hp_one]; exact nat_ne (n := 115) (by omega) (by decide)
 have h2 : nanB (c :: sml t) = false := nan_T (tp_no hp) (by rw [hp_cons, show (110 == c) = false from nat_ne (n := 110) (by omega) (by decide)]; rfl)
 rw [h1, h2]; rfl
theorem ex_cons (c : UInt8) (r : List UInt8) : exB (c :: r) = (decide ((c.toNat : Int) = 101 ∨ (c.toNat : Int) = 69) && isd (sgR r)) := rfl
theorem exI_cons (c : UInt8) (r : List UInt8) : exI (c :: r) = if exB (c :: r) then exS r else 0 := rfl
def FV (z : Bool) (R : List UInt8) : Value := if finB R then PV 1 z false (finD R) (finE R) else PV 0 false false [] 0
def FE (R : List UInt8) : Int := if finB R then 0 else 2
def Rcut (l : List UInt8) (v : Value) (e : Int) (w : World) : Prop := Calls Tryz.prog 40 #[.string (B l)] w fun x w' => x = .returned (.tuple #[v, .int .i64 e]) ∧ Below w.heap.size w w'
theorem f_no {l R : List UInt8} {z : Bool} {w : World} (h : finB R = false) (c : Rcut l (PV 0 false false [] 0) 2 w) : Rcut l (FV z R) (FE R) w := by
 unfold FV FE; rw [h]; exact c
theorem f_yes {l R D : List UInt8} {z : Bool} {w : World} {e : Int} (h : finB R = true) (hD : finD R = D) (he : finE R = e) (c : Rcut l (PV 1 z false D e) 0 w) : Rcut l (FV z R) (FE R) w := by
 unfold FV FE; rw [h, hD, he]; exact c
theorem rcut_pt (l T : List UInt8) (w : World) (hl : l.length ≤ 4000) (hw : woB (sgR l) = false) (hR : rst (sgR l) = 46 :: T) : Rcut l (FV (gsgB l) (sgR l)) (FE (sgR l)) w := by
 have hsl := sgR_le l
 have c19 := fun w => sign_any l w (by omega)
 have c20 := fun w => rword_any (sgR l) w (by omega)
 rw [wo_zero hw, hw] at c20
 have c21 := fun w => run_any (sgR l) w (by omega)
 rw [hR] at c21
 have hTl : T.length < 4001 := by
  have h1 := rst_le (sgR l)
  rw [hR, List.length_cons] at h1; omega
 have c21b := fun w => run_any T w (by omega)
 have hp : Lib.hasPrefix (rst (sgR l)) [46] = true := by rw [hR]; exact hp_app [46] T
 have htp : Lib.trimPrefix (rst (sgR l)) [46] = T := by rw [hR]; exact tp_one 46 T
 have eB : finB (sgR l) = (exB (rst T) && !((dgs (sgR l)).isEmpty && (dgs T).isEmpty)) := by unfold finB frac behind; rw [if_pos hp, if_pos hp, htp]
 have eD : finD (sgR l) = bar (dgs (sgR l) ++ dgs T) := by unfold finD frac; rw [if_pos hp, htp]
 have eE : finE (sgR l) = clampE (exI (rst T) - (dgs T).length) := by unfold finE frac behind; rw [if_pos hp, if_pos hp, htp]
 have hXl := dgs_le (sgR l)
 have hFl := dgs_le T
 have hQl := rst_le T
 have c23 := fun w => gbare_any (dgs (sgR l) ++ dgs T) w (by rw [List.length_append]; omega)
 rw [← eD] at c23
 generalize dgs (sgR l) = X at *
 generalize dgs T = F at *
 generalize rst T = Q at *
 clear hR hp htp hw
 cases Q with
 | nil =>
  cases X with
  | nil =>
   cases F with
   | nil => exact f_no (by rw [eB]; rfl) (rcut_pk0z l w hl _ _ T hTl c19 c20 c21 c21b)
   | cons f fs => exact f_yes (by rw [eB]; rfl) rfl eE (rcut_pk0f l w hl _ _ T f fs (by rw [List.length_cons] at hFl; omega) hTl _ c19 c20 c21 c21b c23)
  | cons x xs => exact f_yes (by rw [eB]; rfl) rfl eE (rcut_pk0x l w hl _ _ T x xs (by rw [List.length_cons] at hXl; omega) F (by omega) hTl _ c19 c20 c21 c21b c23)
 | cons c r =>
  have hr : r.length < 4001 := by rw [List.length_cons] at hQl; omega
  by_cases hz : X = [] ∧ F = []
  ·obtain ⟨rfl, rfl⟩ := hz
   exact f_no (by rw [eB]; simp) (rcut_pk1z l w hl _ _ T (c :: r) hTl c19 c20 c21 c21b)
  ·have hzz : (!(X.isEmpty && F.isEmpty)) = true := by
    cases X
    ·cases F
     ·exact absurd ⟨rfl, rfl⟩ hz
     ·rfl
    ·rfl
   rw [hzz, Bool.and_true, ex_cons] at eB
   by_cases hc : (c.toNat : Int) = 101 ∨ (c.toNat : Int) = 69
   ·rw [decide_eq_true hc, Bool.true_and] at eB
    have c22 := fun w => rexp_any r w (by omega)
    by_cases hi : isd (sgR r) = true
    ·rw [hi] at eB c22
     simp only [if_true] at c22
     have hbd := exS_bd r hi
     have eI : exI (c :: r) = exS r := by rw [exI_cons, ex_cons, decide_eq_true hc, hi]; rfl
     rw [eI] at eE
     cases X with
     | nil =>
      cases F with
      | nil => exact absurd ⟨rfl, rfl⟩ hz
      | cons f fs => exact f_yes eB rfl eE (rcut_pk3f l w hl _ _ T f fs (by rw [List.length_cons] at hFl; omega) c r hr hc _ hTl _ c19 c20 c21 c21b c22 hbd c23)
     | cons x xs => exact f_yes eB rfl eE (rcut_pk3x l w hl _ _ T x xs (by rw [List.length_cons] at hXl; omega) F (by omega) c r hr hc _ hTl _ c19 c20 c21 c21b c22 hbd c23)
    ·have hi' : isd (sgR r) = false := by simpa using hi
     rw [hi'] at eB c22
     simp only [Bool.false_eq_true, if_false] at c22
     cases X with
     | nil =>
      cases F with
      | nil => exact absurd ⟨rfl, rfl⟩ hz
      | cons f fs => exact f_no eB (rcut_pk2f l w hl _ _ T f fs (by rw [List.length_cons] at hFl; omega) c r hr hc _ hTl c19 c20 c21 c21b c22)
     | cons x xs => exact f_no eB (rcut_pk2x l w hl _ _ T x xs (by rw [List.length_cons] at hXl; omega) F (by omega) c r hr hc _ hTl c19 c20 c21 c21b c22)
   ·rw [decide_eq_false hc, Bool.false_and] at eB
    have h1 : (c.toNat : Int) ≠ 101 := fun h => hc (Or.inl h)
    have h2 : (c.toNat : Int) ≠ 69 := fun h => hc (Or.inr h)
    cases X with
    | nil =>
     cases F with
     | nil => exact absurd ⟨rfl, rfl⟩ hz
     | cons f fs => exact f_no eB (rcut_pk1f l w hl _ _ T f fs (by rw [List.length_cons] at hFl; omega) c r hr h1 h2 hTl c19 c20 c21 c21b)
    | cons x xs => exact f_no eB (rcut_pk1x l w hl _ _ T x xs (by rw [List.length_cons] at hXl; omega) F (by omega) c r hr h1 h2 hTl c19 c20 c21 c21b)
theorem rcut_np (l : List UInt8) (w : World) (hl : l.length ≤ 4000) (hw : woB (sgR l) = false) (hp : Lib.hasPrefix (rst (sgR l)) [46] = false) : Rcut l (FV (gsgB l) (sgR l)) (FE (sgR l)) w := by
 have hsl := sgR_le l
 have c19 := fun w => sign_any l w (by omega)
 have c20 := fun w => rword_any (sgR l) w (by omega)
 rw [wo_zero hw, hw] at c20
 have c21 := fun w => run_any (sgR l) w (by omega)
 have hp' : ¬ Lib.hasPrefix (rst (sgR l)) [46] = true := by rw [hp]; decide
 have eB : finB (sgR l) = (exB (rst (sgR l)) && !((dgs (sgR l)).isEmpty)) := by unfold finB frac behind; rw [if_neg hp', if_neg hp']; simp
 have eD : finD (sgR l) = bar (dgs (sgR l)) := by unfold finD frac; rw [if_neg hp', List.append_nil]
 have eE : finE (sgR l) = clampE (exI (rst (sgR l))) := by unfold finE frac behind; rw [if_neg hp', if_neg hp']; simp
 have hXl := dgs_le (sgR l)
 have hQl := rst_le (sgR l)
 have c23 := fun w => gbare_any (dgs (sgR l)) w (by omega)
 rw [← eD] at c23
 generalize dgs (sgR l) = X at *
 generalize rst (sgR l) = Q at *
 clear hp' hw
 cases Q with
 | nil =>
  cases X with
  | nil => exact f_no (by rw [eB]; rfl) (rcut_ok0z l w hl _ _ [] c19 c20 c21)
  | cons x xs => exact f_yes (by rw [eB]; rfl) rfl eE (rcut_ok0x l w hl _ _ [] x xs (by rw [List.length_cons] at hXl; omega) _ c19 c20 c21 c23)
 | cons c r =>
  have hr : r.length < 4001 := by rw [List.length_cons] at hQl; omega
  have hc46 : (c.toNat : Int) ≠ 46 := by
   intro e
   rw [nat_eq (n := 46) e (by decide)] at hp
   rw [hp_one] at hp
   exact absurd hp (by decide)
  cases X with
  | nil => exact f_no (by rw [eB]; simp) (rcut_nk1z l w hl _ _ [] (c :: r) c r rfl hc46 c19 c20 c21)
  | cons x xs =>
   rw [List.isEmpty_cons, Bool.not_false, Bool.and_true, ex_cons] at eB
   by_cases hc : (c.toNat : Int) = 101 ∨ (c.toNat : Int) = 69
   ·rw [decide_eq_true hc, Bool.true_and] at eB
    have c22 := fun w => rexp_any r w (by omega)
    by_cases hi : isd (sgR r) = true
    ·rw [hi] at eB c22
     simp only [if_true] at c22
     have hbd := exS_bd r hi
     have eI : exI (c :: r) = exS r := by rw [exI_cons, ex_cons, decide_eq_true hc, hi]; rfl
     rw [eI] at eE
     exact f_yes eB rfl eE (rcut_nk3x l w hl _ _ [] x xs (by rw [List.length_cons] at hXl; omega) c r hr hc46 hc _ _ c19 c20 c21 c22 hbd c23)
    ·have hi' : isd (sgR r) = false := by simpa using hi
     rw [hi'] at eB c22
     simp only [Bool.false_eq_true, if_false] at c22
     exact f_no eB (rcut_nk2x l w hl _ _ [] x xs (by rw [List.length_cons] at hXl; omega) c r hr hc46 hc _ c19 c20 c21 c22)
   ·rw [decide_eq_false hc, Bool.false_and] at eB
    have h1 : (c.toNat : Int) ≠ 101 := fun h => hc (Or.inl h)
    have h2 : (c.toNat : Int) ≠ 69 := fun h => hc (Or.inr h)
    exact f_no eB (rcut_nk1x l w hl _ _ [] x xs (by rw [List.length_cons] at hXl; omega) c r hr hc46 h1 h2 c19 c20 c21)
theorem rcut_any (l : List UInt8) (w : World) (hs : l.length < 10001) :
  Calls Tryz.prog 40 #[.string (B l)] w fun e w' => e = .returned (.tuple #[(cutV l).v, .int .i64 (cutE l)]) ∧ Below w.heap.size w w' := by
 unfold cutV cutE cutP
 by_cases hl : 4000 < l.length
 ·rw [if_pos hl, if_pos hl]
  exact rcut_long l w hs hl
 ·rw [if_neg hl, if_neg hl]
  by_cases hw : woB (sgR l) = true
  ·have hf : finB (sgR l) = false := by
    cases e : finB (sgR l)
    ·rfl
    ·rw [fin_not_wo e] at hw; cases hw
   unfold bodP
   rw [hf]
   simp only [Bool.false_eq_true, if_false]
   by_cases h1 : infB (sml (sgR l)) = true
   ·rw [if_pos h1]
    exact rcut_wo l w (by omega) 2 false [] (by unfold woV; rw [if_pos h1]) hw
   ·rw [if_neg h1]
    have h2 : nanB (sml (sgR l)) = true := by
     unfold woB at hw
     rw [Bool.or_eq_true] at hw
     exact hw.resolve_left h1
    rw [if_pos h2]
    exact rcut_wo l w (by omega) 3 _ _ (by unfold woV; rw [if_neg h1, if_pos h2]; rfl) hw
  ·have hw' : woB (sgR l) = false := by simpa using hw
   have hh := hw'
   unfold woB at hh
   rw [Bool.or_eq_false_iff] at hh
   have key : Rcut l (FV (gsgB l) (sgR l)) (FE (sgR l)) w := by
    cases e : rst (sgR l) with
    | nil => exact rcut_np l w (by omega) hw' (by rw [e]; rfl)
    | cons c T =>
     by_cases hc : (c.toNat : Int) = 46
     ·rw [nat_eq (n := 46) hc (by decide)] at e
      exact rcut_pt l T w (by omega) hw' e
     ·exact rcut_np l w (by omega) hw' (by rw [e, hp_one]; exact nat_ne (n := 46) hc (by decide))
   unfold bodP
   rw [hh.1, hh.2]
   simp only [Bool.false_eq_true, if_false]
   unfold Rcut FV FE at key
   by_cases hf : finB (sgR l) = true
   ·rw [if_pos hf] at key ⊢
    rw [if_pos hf] at key
    exact key
   ·rw [if_neg hf] at key ⊢
    rw [if_neg hf] at key
    exact key
end Go.Proofs.YtplocajjfoiklaaGreatDoor
