/-
  What the program's payload, word and Cut do: contracts.
-/
import Derived.Test.YtgjdhfmpemionaaDoorGf
set_option linter.unusedVariables false
set_option linter.unusedSimpArgs false
set_option maxRecDepth 20000
namespace Go.Proofs.YtgjdhfmpemionaaDoor
open Go.RowKit

/-- a payload's digits, and whether it is one -/
def paD (l : List UInt8) : List UInt8 := if Lib.hasPrefix l [40] then dgs (Lib.trimPrefix l [40]) else []
def paB (l : List UInt8) : Bool := l.isEmpty || (Lib.hasPrefix l [40] && (!(dgs (Lib.trimPrefix l [40])).isEmpty && (rst (Lib.trimPrefix l [40]) == [41])))
theorem hasPre_nil (c : UInt8) (p : List UInt8) : Lib.hasPrefix [] (c :: p) = false := rfl
set_option maxHeartbeats 2000000 in
theorem payload_any (l : List UInt8) (w : World) (hs : l.length < 10001) :
    Calls Tryd.prog 32 #[.string (B l)] w fun e w' => e = .returned (.tuple #[.string (B (paD l)), .bool (paB l)]) ∧ Below w.heap.size w w' := by
  have htl := B_toList
  cases l with
  | nil =>
    go_enter Tryd.func32, Tryd.ntmps32
    go_wp2
    go_ret2
    exact ⟨rfl, Below.refl _ _⟩
  | cons c r =>
    have c28 : ∀ w, Calls Tryd.prog 28 #[.string (B (c :: r)), .string ⟨#[40]⟩] w fun e w' => e = .returned (.tuple #[.string (B (Lib.trimPrefix (c :: r) [40])), .bool (Lib.hasPrefix (c :: r) [40])]) ∧ w' = w := fun w => cutp_any (c :: r) [40] w
    have hTl := trimPre_le (c :: r) [40]
    have c27 := fun w => ldig_any (Lib.trimPrefix (c :: r) [40]) w (by omega)
    unfold paD paB
    generalize Lib.trimPrefix (c :: r) [40] = T at *
    generalize Lib.hasPrefix (c :: r) [40] = z at *
    simp only [List.isEmpty_cons, Bool.false_or]
    cases z
    · simp only [Bool.false_eq_true, if_false, Bool.false_and]
      go_enter Tryd.func32, Tryd.ntmps32
      go_wp2_with (go_at_call 28; refine (c28 _).mono ?_; rintro x w2 ⟨rfl, rfl⟩)
      go_ret2
      exact ⟨rfl, Below.refl _ _⟩
    · simp only [if_true, Bool.true_and]
      generalize dgs T = D at *
      generalize rst T = R at *
      cases D with
      | nil =>
        simp only [List.isEmpty_nil, Bool.not_true, Bool.false_and]
        go_enter Tryd.func32, Tryd.ntmps32
        go_wp2_with (first | (go_at_call 28; refine (c28 _).mono ?_; rintro x w2 ⟨rfl, rfl⟩) | (go_at_call 27; refine (c27 _).mono ?_; rintro x w3 ⟨rfl, hb3⟩))
        go_ret2
        exact ⟨rfl, hb3⟩
      | cons d ds =>
        simp only [List.isEmpty_cons, Bool.not_false, Bool.true_and]
        go_enter Tryd.func32, Tryd.ntmps32
        go_wp2_with (first | (go_at_call 28; refine (c28 _).mono ?_; rintro x w2 ⟨rfl, rfl⟩) | (go_at_call 27; refine (c27 _).mono ?_; rintro x w3 ⟨rfl, hb3⟩))
        go_ret2
        exact ⟨rfl, hb3⟩
/-- a word -/
def infB (x : List UInt8) : Bool := x == [105, 110, 102] || x == [105, 110, 102, 105, 110, 105, 116, 121]
def nanR (x : List UInt8) : List UInt8 := Lib.trimPrefix (Lib.trimPrefix x [115]) [110, 97, 110]
def nanB (x : List UInt8) : Bool := Lib.hasPrefix (Lib.trimPrefix x [115]) [110, 97, 110] && paB (nanR x)
def woB (s : List UInt8) : Bool := infB (sml s) || nanB (sml s)
def woV (s : List UInt8) : Value := if infB (sml s) then PV 2 false false [] 0 else if nanB (sml s) then PV 3 false (Lib.hasPrefix (sml s) [115]) (bar (paD (nanR (sml s)))) 0 else PV 0 false false [] 0
set_option maxHeartbeats 2000000 in
theorem word_any (s : List UInt8) (w : World) (hs : s.length < 10001) :
    Calls Tryd.prog 18 #[.string (B s)] w fun e w' => e = .returned (.tuple #[woV s, .bool (woB s)]) ∧ Below w.heap.size w w' := by
  have htl := B_toList
  have c31 := fun w => small_any s w hs
  unfold woV woB PV
  have hxl := sml_len s
  generalize sml s = x at *
  have HI : Hid (infB x = (x == [105, 110, 102] || x == [105, 110, 102, 105, 110, 105, 116, 121])) := rfl
  by_cases h1 : x = [105, 110, 102]
  · have hi : infB x = true := by rw [h1]; rfl
    rw [hi]
    subst h1
    simp only [if_true, Bool.true_or]
    go_enter Tryd.func18, Tryd.ntmps18
    go_wp2_with (first | (go_at_call 31; refine (c31 _).mono ?_; rintro x w1 ⟨rfl, hb1⟩; obtain ⟨hc1, hf1⟩ := bcell hb1; have hz1_0 : w.heap.size < w1.heap.size := lt_below hb1 (by first | with_reducible assumption | (simp; done) | (simp; omega)); have hl1_0 := Nat.le_of_lt hz1_0; have hA1 := bnext (w0 := w) (by (repeat (first | with_reducible assumption | with_reducible exact Below.refl _ _ | with_reducible refine Below.setCell ?_ (by first | omega | (dsimp only; omega) | (simp <;> omega)) _ | with_reducible refine Below.alloc ?_ (by first | omega | (simp <;> omega)) _ | with_reducible refine Below.drew ?_))) hb1; have hs1 := hA1.size; clear hb1))
    exact bodyPost_ret (v := .tuple #[.agg #[.int .i64 2, .bool false, .bool false, .string ⟨#[]⟩, .int .i64 0], .bool true]) (by simp only [results, Tryd.results18]; go_simp) rfl ⟨rfl, by (repeat (first | with_reducible assumption | with_reducible exact Below.refl _ _ | with_reducible refine Below.setCell ?_ (by first | omega | (dsimp only; omega) | (simp <;> omega)) _ | with_reducible refine Below.alloc ?_ (by first | omega | (simp <;> omega)) _ | with_reducible refine Below.drew ?_))⟩
  · by_cases h2 : x = [105, 110, 102, 105, 110, 105, 116, 121]
    · have hi : infB x = true := by rw [h2]; rfl
      rw [hi]
      subst h2
      simp only [if_true, Bool.true_or]
      go_enter Tryd.func18, Tryd.ntmps18
      go_wp2_with (first | (go_at_call 31; refine (c31 _).mono ?_; rintro x w1 ⟨rfl, hb1⟩; obtain ⟨hc1, hf1⟩ := bcell hb1; have hz1_0 : w.heap.size < w1.heap.size := lt_below hb1 (by first | with_reducible assumption | (simp; done) | (simp; omega)); have hl1_0 := Nat.le_of_lt hz1_0; have hA1 := bnext (w0 := w) (by (repeat (first | with_reducible assumption | with_reducible exact Below.refl _ _ | with_reducible refine Below.setCell ?_ (by first | omega | (dsimp only; omega) | (simp <;> omega)) _ | with_reducible refine Below.alloc ?_ (by first | omega | (simp <;> omega)) _ | with_reducible refine Below.drew ?_))) hb1; have hs1 := hA1.size; clear hb1))
      exact bodyPost_ret (v := .tuple #[.agg #[.int .i64 2, .bool false, .bool false, .string ⟨#[]⟩, .int .i64 0], .bool true]) (by simp only [results, Tryd.results18]; go_simp) rfl ⟨rfl, by (repeat (first | with_reducible assumption | with_reducible exact Below.refl _ _ | with_reducible refine Below.setCell ?_ (by first | omega | (dsimp only; omega) | (simp <;> omega)) _ | with_reducible refine Below.alloc ?_ (by first | omega | (simp <;> omega)) _ | with_reducible refine Below.drew ?_))⟩
    · have hi : infB x = false := by unfold infB; rw [beq_eq_false_iff_ne.2 h1, beq_eq_false_iff_ne.2 h2]; rfl
      rw [hi]
      have b1 : (x == [105, 110, 102]) = false := beq_eq_false_iff_ne.2 h1
      have b2 : (x == [105, 110, 102, 105, 110, 105, 116, 121]) = false := beq_eq_false_iff_ne.2 h2
      simp only [Bool.false_eq_true, if_false, Bool.false_or]
      have c28 : ∀ w, Calls Tryd.prog 28 #[.string (B x), .string ⟨#[115]⟩] w fun e w' => e = .returned (.tuple #[.string (B (Lib.trimPrefix x [115])), .bool (Lib.hasPrefix x [115])]) ∧ w' = w := fun w => cutp_any x [115] w
      have hl1 := trimPre_le x [115]
      have c28n : ∀ w, Calls Tryd.prog 28 #[.string (B (Lib.trimPrefix x [115])), .string ⟨#[110, 97, 110]⟩] w fun e w' => e = .returned (.tuple #[.string (B (nanR x)), .bool (Lib.hasPrefix (Lib.trimPrefix x [115]) [110, 97, 110])]) ∧ w' = w := fun w => cutp_any (Lib.trimPrefix x [115]) [110, 97, 110] w
      have hl2 := trimPre_le (Lib.trimPrefix x [115]) [110, 97, 110]
      change (nanR x).length ≤ _ at hl2
      unfold nanB
      generalize Lib.hasPrefix (Lib.trimPrefix x [115]) [110, 97, 110] = z at *
      generalize Lib.hasPrefix x [115] = g at *
      generalize Lib.trimPrefix x [115] = T at *
      have c32 := fun w => payload_any (nanR x) w (by omega)
      generalize nanR x = N at *
      have hpl : (paD N).length ≤ N.length := by
        unfold paD; split
        · exact Nat.le_trans (dgs_le _) (trimPre_le _ _)
        · simp
      have c30 := fun w => signif_any (paD N) w (by omega)
      generalize paD N = P at *
      generalize paB N = y at *
      cases z
      · simp only [Bool.false_and, Bool.false_eq_true, if_false]
        go_enter Tryd.func18, Tryd.ntmps18
        go_wp2_with (first | (go_at_call 31; refine (c31 _).mono ?_; rintro x w1 ⟨rfl, hb1⟩; obtain ⟨hc1, hf1⟩ := bcell hb1; have hz1_0 : w.heap.size < w1.heap.size := lt_below hb1 (by first | with_reducible assumption | (simp; done) | (simp; omega)); have hl1_0 := Nat.le_of_lt hz1_0; have hA1 := bnext (w0 := w) (by (repeat (first | with_reducible assumption | with_reducible exact Below.refl _ _ | with_reducible refine Below.setCell ?_ (by first | omega | (dsimp only; omega) | (simp <;> omega)) _ | with_reducible refine Below.alloc ?_ (by first | omega | (simp <;> omega)) _ | with_reducible refine Below.drew ?_))) hb1; have hs1 := hA1.size; clear hb1) | (go_at_call 28; refine (c28 _).mono ?_; rintro x w2 ⟨rfl, rfl⟩; clear c28))
        go_wp2_with (first | (go_at_call 28; refine (c28n _).mono ?_; rintro x w2 ⟨rfl, rfl⟩; clear c28n))
        exact bodyPost_ret (v := .tuple #[.agg #[.int .i64 0, .bool false, .bool false, .string ⟨#[]⟩, .int .i64 0], .bool false]) (by simp only [results, Tryd.results18]; go_simp) rfl ⟨rfl, by (repeat (first | with_reducible assumption | with_reducible exact Below.refl _ _ | with_reducible refine Below.setCell ?_ (by first | omega | (dsimp only; omega) | (simp <;> omega)) _ | with_reducible refine Below.alloc ?_ (by first | omega | (simp <;> omega)) _ | with_reducible refine Below.drew ?_))⟩
      · cases y
        · simp only [Bool.true_and, Bool.false_eq_true, if_false]
          go_enter Tryd.func18, Tryd.ntmps18
          go_wp2_with (first | (go_at_call 31; refine (c31 _).mono ?_; rintro x w1 ⟨rfl, hb1⟩; obtain ⟨hc1, hf1⟩ := bcell hb1; have hz1_0 : w.heap.size < w1.heap.size := lt_below hb1 (by first | with_reducible assumption | (simp; done) | (simp; omega)); have hl1_0 := Nat.le_of_lt hz1_0; have hA1 := bnext (w0 := w) (by (repeat (first | with_reducible assumption | with_reducible exact Below.refl _ _ | with_reducible refine Below.setCell ?_ (by first | omega | (dsimp only; omega) | (simp <;> omega)) _ | with_reducible refine Below.alloc ?_ (by first | omega | (simp <;> omega)) _ | with_reducible refine Below.drew ?_))) hb1; have hs1 := hA1.size; clear hb1) | (go_at_call 28; refine (c28 _).mono ?_; rintro x w2 ⟨rfl, rfl⟩; clear c28))
          go_wp2_with (first | (go_at_call 28; refine (c28n _).mono ?_; rintro x w2 ⟨rfl, rfl⟩; clear c28n) | (go_at_call 32; refine (c32 _).mono ?_; rintro x w3 ⟨rfl, hb3⟩; obtain ⟨hc3, hf3⟩ := bcell hb3; have hz3_0 : w.heap.size < w3.heap.size := lt_below hb3 (by first | with_reducible assumption | (simp; done) | (simp; omega)); have hl3_0 := Nat.le_of_lt hz3_0; have hA3 := bnext (w0 := w) (by (repeat (first | with_reducible assumption | with_reducible exact Below.refl _ _ | with_reducible refine Below.setCell ?_ (by first | omega | (dsimp only; omega) | (simp <;> omega)) _ | with_reducible refine Below.alloc ?_ (by first | omega | (simp <;> omega)) _ | with_reducible refine Below.drew ?_))) hb3; have hs3 := hA3.size; clear hb3))
          exact bodyPost_ret (v := .tuple #[.agg #[.int .i64 0, .bool false, .bool false, .string ⟨#[]⟩, .int .i64 0], .bool false]) (by simp only [results, Tryd.results18]; go_simp) rfl ⟨rfl, by (repeat (first | with_reducible assumption | with_reducible exact Below.refl _ _ | with_reducible refine Below.setCell ?_ (by first | omega | (dsimp only; omega) | (simp <;> omega)) _ | with_reducible refine Below.alloc ?_ (by first | omega | (simp <;> omega)) _ | with_reducible refine Below.drew ?_))⟩
        · simp only [Bool.true_and, if_true]
          go_enter Tryd.func18, Tryd.ntmps18
          go_wp2_with (first | (go_at_call 31; refine (c31 _).mono ?_; rintro x w1 ⟨rfl, hb1⟩; obtain ⟨hc1, hf1⟩ := bcell hb1; have hz1_0 : w.heap.size < w1.heap.size := lt_below hb1 (by first | with_reducible assumption | (simp; done) | (simp; omega)); have hl1_0 := Nat.le_of_lt hz1_0; have hA1 := bnext (w0 := w) (by (repeat (first | with_reducible assumption | with_reducible exact Below.refl _ _ | with_reducible refine Below.setCell ?_ (by first | omega | (dsimp only; omega) | (simp <;> omega)) _ | with_reducible refine Below.alloc ?_ (by first | omega | (simp <;> omega)) _ | with_reducible refine Below.drew ?_))) hb1; have hs1 := hA1.size; clear hb1) | (go_at_call 28; refine (c28 _).mono ?_; rintro x w2 ⟨rfl, rfl⟩; clear c28))
          go_wp2_with (first | (go_at_call 28; refine (c28n _).mono ?_; rintro x w2 ⟨rfl, rfl⟩; clear c28n) | (go_at_call 32; refine (c32 _).mono ?_; rintro x w3 ⟨rfl, hb3⟩; obtain ⟨hc3, hf3⟩ := bcell hb3; have hz3_0 : w.heap.size < w3.heap.size := lt_below hb3 (by first | with_reducible assumption | (simp; done) | (simp; omega)); have hl3_0 := Nat.le_of_lt hz3_0; have hA3 := bnext (w0 := w) (by (repeat (first | with_reducible assumption | with_reducible exact Below.refl _ _ | with_reducible refine Below.setCell ?_ (by first | omega | (dsimp only; omega) | (simp <;> omega)) _ | with_reducible refine Below.alloc ?_ (by first | omega | (simp <;> omega)) _ | with_reducible refine Below.drew ?_))) hb3; have hs3 := hA3.size; clear hb3) | (go_at_call 30; refine (c30 _).mono ?_; rintro x w4 ⟨rfl, hb4⟩; obtain ⟨hc4, hf4⟩ := bcell hb4; have hz4_0 : w.heap.size < w4.heap.size := lt_below hb4 (by first | with_reducible assumption | (simp; done) | (simp; omega)); have hl4_0 := Nat.le_of_lt hz4_0; have hA4 := bnext (w0 := w) (by (repeat (first | with_reducible assumption | with_reducible exact Below.refl _ _ | with_reducible refine Below.setCell ?_ (by first | omega | (dsimp only; omega) | (simp <;> omega)) _ | with_reducible refine Below.alloc ?_ (by first | omega | (simp <;> omega)) _ | with_reducible refine Below.drew ?_))) hb4; have hs4 := hA4.size; clear hb4))
          exact bodyPost_ret (v := .tuple #[.agg #[.int .i64 3, .bool false, .bool g, .string (B (bar P)), .int .i64 0], .bool true]) (by simp only [results, Tryd.results18]; go_simp) rfl ⟨rfl, by (repeat (first | with_reducible assumption | with_reducible exact Below.refl _ _ | with_reducible refine Below.setCell ?_ (by first | omega | (dsimp only; omega) | (simp <;> omega)) _ | with_reducible refine Below.alloc ?_ (by first | omega | (simp <;> omega)) _ | with_reducible refine Below.drew ?_))⟩
end Go.Proofs.YtgjdhfmpemionaaDoor
