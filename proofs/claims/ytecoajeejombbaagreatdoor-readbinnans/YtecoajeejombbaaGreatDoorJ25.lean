/-
  Texts that the proof leans on, joined: Gh.
-/
import Derived.Test.YtecoajeejombbaaGreatDoorJ24
import Derived.Test.YtecoajeejombbaaGreatDoorJ1
set_option linter.unusedVariables false
set_option linter.unusedSimpArgs false
set_option maxRecDepth 20000
set_option linter.unusedSectionVars false
namespace Go.Proofs.YtecoajeejombbaaGreatDoor
open Go.RowKit

/-- a number's parts -/
structure Prt where
  cls : Int
  sg : Bool
  sn : Bool
  dig : List UInt8
  ex : Int
def Prt.v (p : Prt) : Value := PV p.cls p.sg p.sn p.dig p.ex
def Prt.zero : Prt := ⟨0, false, false, [], 0⟩
/-- the parts of a text whose sign z is gone -/
def bodP (z : Bool) (r : List UInt8) : Option Prt :=
  if finB r then some ⟨1, z, false, finD r, finE r⟩
  else if infB (sml r) then some ⟨2, z, false, [], 0⟩
  else if nanB (sml r) then some ⟨3, z, Lib.hasPrefix (sml r) [115], bar (paD (nanR (sml r))), 0⟩
  else none
def cutP (l : List UInt8) : Option Prt := if 4000 < l.length then none else bodP (gsgB l) (sgR l)
def cutE (l : List UInt8) : Int := if 4000 < l.length then 4 else if (cutP l).isSome then 0 else 2
def cutV (l : List UInt8) : Prt := (cutP l).getD Prt.zero
set_option maxHeartbeats 2000000 in
theorem cut_long (l : List UInt8) (w : World) (hs : l.length < 10001) (hl : 4000 < l.length) :
    Calls Tryz.prog 29 #[.string (B l)] w fun e w' => e = .returned (.tuple #[PV 0 false false [] 0, .int .i64 4]) ∧ Below w.heap.size w w' := by
  have hsz := B_size l
  have hi : (4000 : Int) < l.length := by omega
  unfold PV
  go_enter Tryz.func29, Tryz.ntmps29
  go_wp2
  exact bodyPost_ret (v := .tuple #[.agg #[.int .i64 0, .bool false, .bool false, .string ⟨#[]⟩, .int .i64 0], .int .i64 4]) (by simp only [results, Tryz.results29]; go_simp) rfl ⟨rfl, bgo⟩
set_option maxHeartbeats 2000000 in
theorem cut_fin (l : List UInt8) (w : World) (hl : l.length ≤ 4000) (hf : finB (sgR l) = true) :
    Calls Tryz.prog 29 #[.string (B l)] w fun e w' => e = .returned (.tuple #[PV 1 (gsgB l) false (finD (sgR l)) (finE (sgR l)), .int .i64 0]) ∧ Below w.heap.size w w' := by
  have hsz := B_size l
  have hi : (l.length : Int) ≤ 4000 := by omega
  have hsl := sgR_le l
  have c16 := fun w => lsign_any l w (by omega)
  have c17 := fun w => fin_eq (sgR l) w (by omega)
  rw [hf] at c17
  simp only [if_true] at c17
  unfold PV at c17 ⊢
  generalize finD (sgR l) = D at *
  generalize finE (sgR l) = E at *
  generalize gsgB l = z at *
  generalize sgR l = R at *
  have hsm : ∀ (W : World) (b i : Nat) (v : Value), (W.setCell ⟨b, i, none⟩ v).cell? ⟨b, i, none⟩ = (W.cell? ⟨b, i, none⟩).map fun _ => v := fun W b i v => gcell_set_map W b i v
  go_enter Tryz.func29, Tryz.ntmps29
  go_wp2_with (first | (go_at_call 56; refine (c16 _).mono ?_; rintro x w1 ⟨rfl, hb1⟩; obtain ⟨hc1, hf1⟩ := gbcell hb1; have hz1_0 : w.heap.size < w1.heap.size := glt_below hb1 ltg; have hl1_0 := Nat.le_of_lt hz1_0; have hA1 := gbnext (w0 := w) bgo hb1; have hs1 := hA1.size; clear hb1) | (go_at_call 57; refine (c17 _).mono ?_; rintro x w2 ⟨rfl, hb2⟩; obtain ⟨hc2, hf2⟩ := gbcell hb2; have hz2_0 : w.heap.size < w2.heap.size := glt_below hb2 ltg; have hl2_0 := Nat.le_of_lt hz2_0; have hA2 := gbnext (w0 := w) bgo hb2; have hs2 := hA2.size; clear hb2))
  exact bodyPost_ret (v := .tuple #[.agg #[.int .i64 1, .bool z, .bool false, .string (B D), .int .i64 E], .int .i64 0]) (by simp only [results, Tryz.results29]; go_simp) rfl ⟨rfl, bgo⟩
set_option maxHeartbeats 2000000 in
theorem cut_wo (l : List UInt8) (w : World) (hl : l.length ≤ 4000) (hf : finB (sgR l) = false) (C : Int) (G : Bool) (D : List UInt8) (hv : woV (sgR l) = PV C false G D 0) (hb : woB (sgR l) = true) :
    Calls Tryz.prog 29 #[.string (B l)] w fun e w' => e = .returned (.tuple #[PV C (gsgB l) G D 0, .int .i64 0]) ∧ Below w.heap.size w w' := by
  have hsz := B_size l
  have hi : (l.length : Int) ≤ 4000 := by omega
  have hsl := sgR_le l
  have c16 := fun w => lsign_any l w (by omega)
  have c17 := fun w => fin_eq (sgR l) w (by omega)
  have c18 := fun w => gword_any (sgR l) w (by omega)
  rw [hf] at c17
  rw [hv, hb] at c18
  simp only [Bool.false_eq_true, if_false] at c17
  unfold PV at c17 c18 ⊢
  clear hv hb hf
  generalize gsgB l = z at *
  generalize sgR l = R at *
  have hsm := gcell_set_map
  go_enter Tryz.func29, Tryz.ntmps29
  go_wp2_with (first | (go_at_call 56; refine (c16 _).mono ?_; rintro x w1 ⟨rfl, hb1⟩; obtain ⟨hc1, hf1⟩ := gbcell hb1; have hz1_0 : w.heap.size < w1.heap.size := glt_below hb1 ltg; have hl1_0 := Nat.le_of_lt hz1_0; have hA1 := gbnext (w0 := w) bgo hb1; have hs1 := hA1.size; clear hb1) | (go_at_call 57; refine (c17 _).mono ?_; rintro x w2 ⟨rfl, hb2⟩; obtain ⟨hc2, hf2⟩ := gbcell hb2; have hz2_0 : w.heap.size < w2.heap.size := glt_below hb2 ltg; have hl2_0 := Nat.le_of_lt hz2_0; have hA2 := gbnext (w0 := w) bgo hb2; have hs2 := hA2.size; clear hb2) | (go_at_call 58; refine (c18 _).mono ?_; rintro x w3 ⟨rfl, hb3⟩; obtain ⟨hc3, hf3⟩ := gbcell hb3; have hz3_0 : w.heap.size < w3.heap.size := glt_below hb3 ltg; have hl3_0 := Nat.le_of_lt hz3_0; have hz3_1 : w2.heap.size < w3.heap.size := glt_below hb3 ltg; have hl3_1 := Nat.le_of_lt hz3_1; have hA3 := gbnext (w0 := w) bgo hb3; have hs3 := hA3.size; clear hb3))
  exact bodyPost_ret (v := .tuple #[.agg #[.int .i64 C, .bool z, .bool G, .string (B D), .int .i64 0], .int .i64 0]) (by simp only [results, Tryz.results29]; go_simp) rfl ⟨rfl, bgo⟩
set_option maxHeartbeats 2000000 in
theorem cut_no (l : List UInt8) (w : World) (hl : l.length ≤ 4000) (hf : finB (sgR l) = false) (hv : woV (sgR l) = PV 0 false false [] 0) (hb : woB (sgR l) = false) :
    Calls Tryz.prog 29 #[.string (B l)] w fun e w' => e = .returned (.tuple #[PV 0 false false [] 0, .int .i64 2]) ∧ Below w.heap.size w w' := by
  have hsz := B_size l
  have hi : (l.length : Int) ≤ 4000 := by omega
  have hsl := sgR_le l
  have c16 := fun w => lsign_any l w (by omega)
  have c17 := fun w => fin_eq (sgR l) w (by omega)
  have c18 := fun w => gword_any (sgR l) w (by omega)
  rw [hf] at c17
  rw [hv, hb] at c18
  simp only [Bool.false_eq_true, if_false] at c17
  unfold PV at c17 c18 ⊢
  clear hv hb hf
  generalize gsgB l = z at *
  generalize sgR l = R at *
  have hsm := gcell_set_map
  go_enter Tryz.func29, Tryz.ntmps29
  go_wp2_with (first | (go_at_call 56; refine (c16 _).mono ?_; rintro x w1 ⟨rfl, hb1⟩; obtain ⟨hc1, hf1⟩ := gbcell hb1; have hz1_0 : w.heap.size < w1.heap.size := glt_below hb1 ltg; have hl1_0 := Nat.le_of_lt hz1_0; have hA1 := gbnext (w0 := w) bgo hb1; have hs1 := hA1.size; clear hb1) | (go_at_call 57; refine (c17 _).mono ?_; rintro x w2 ⟨rfl, hb2⟩; obtain ⟨hc2, hf2⟩ := gbcell hb2; have hz2_0 : w.heap.size < w2.heap.size := glt_below hb2 ltg; have hl2_0 := Nat.le_of_lt hz2_0; have hA2 := gbnext (w0 := w) bgo hb2; have hs2 := hA2.size; clear hb2) | (go_at_call 58; refine (c18 _).mono ?_; rintro x w3 ⟨rfl, hb3⟩; obtain ⟨hc3, hf3⟩ := gbcell hb3; have hz3_0 : w.heap.size < w3.heap.size := glt_below hb3 ltg; have hl3_0 := Nat.le_of_lt hz3_0; have hz3_1 : w2.heap.size < w3.heap.size := glt_below hb3 ltg; have hl3_1 := Nat.le_of_lt hz3_1; have hA3 := gbnext (w0 := w) bgo hb3; have hs3 := hA3.size; clear hb3))
  exact bodyPost_ret (v := .tuple #[.agg #[.int .i64 0, .bool false, .bool false, .string ⟨#[]⟩, .int .i64 0], .int .i64 2]) (by simp only [results, Tryz.results29]; go_simp) rfl ⟨rfl, bgo⟩
theorem cut_any (l : List UInt8) (w : World) (hs : l.length < 10001) :
    Calls Tryz.prog 29 #[.string (B l)] w fun e w' => e = .returned (.tuple #[(cutV l).v, .int .i64 (cutE l)]) ∧ Below w.heap.size w w' := by
  unfold cutV cutE cutP
  by_cases hl : 4000 < l.length
  · rw [if_pos hl, if_pos hl]
    exact cut_long l w hs hl
  · rw [if_neg hl, if_neg hl]
    unfold bodP
    by_cases hf : finB (sgR l) = true
    · rw [if_pos hf]
      exact cut_fin l w (by omega) hf
    · rw [if_neg hf]
      have hf' : finB (sgR l) = false := by simpa using hf
      by_cases h1 : infB (sml (sgR l)) = true
      · rw [if_pos h1]
        exact cut_wo l w (by omega) hf' 2 false [] (by unfold woV; rw [if_pos h1]) (by unfold woB; rw [h1]; rfl)
      · rw [if_neg h1]
        by_cases h2 : nanB (sml (sgR l)) = true
        · rw [if_pos h2]
          exact cut_wo l w (by omega) hf' 3 _ _ (by unfold woV; rw [if_neg h1, if_pos h2]; rfl) (by unfold woB; rw [h2, Bool.or_true])
        · rw [if_neg h2]
          exact cut_no l w (by omega) hf' (by unfold woV; rw [if_neg h1, if_neg h2]) (by unfold woB; rw [show infB (sml (sgR l)) = false by simpa using h1, show nanB (sml (sgR l)) = false by simpa using h2]; rfl)
end Go.Proofs.YtecoajeejombbaaGreatDoor
