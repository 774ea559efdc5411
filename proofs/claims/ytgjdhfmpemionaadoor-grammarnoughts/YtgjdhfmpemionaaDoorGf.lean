/-
  What the program's finite does: a contract.
-/
import Derived.Test.YtgjdhfmpemionaaDoorGe
import Derived.Test.YtgjdhfmpemionaaDoorShelf
set_option linter.unusedVariables false
set_option linter.unusedSimpArgs false
set_option maxRecDepth 20000
namespace Go.Proofs.YtgjdhfmpemionaaDoor
open Go.RowKit

theorem trim_any (l : List UInt8) (w : World) : Calls Tryd.prog 42 #[.string (B l), .string ⟨#[48]⟩] w fun e w' => e = .returned (.string (B (bar l))) ∧ w' = w :=
  Tryd.strings_TrimLeft_one (B l) 48 (by decide) w
set_option maxHeartbeats 400000 in
theorem clone_any (l : List UInt8) (w : World) (hs : l.length < 4294967296) : Calls Tryd.prog 41 #[.string (B l)] w fun e w' => e = .returned (.string (B l)) ∧ Below w.heap.size w w' := by
  have c := fun w => Tryd.stringslite_Clone (B l) w (by rw [B_size]; omega)
  go_enter Tryd.func41, Tryd.ntmps41
  go_wp2_with (go_at_call 46; refine (c _).mono ?_; rintro x w1 ⟨rfl, hb1⟩)
  go_ret
  exact ⟨rfl, hb1⟩
theorem cutp_any (l p : List UInt8) (w : World) : Calls Tryd.prog 28 #[.string (B l), .string ⟨p.toArray⟩] w fun e w' => e = .returned (.tuple #[.string (B (Lib.trimPrefix l p)), .bool (Lib.hasPrefix l p)]) ∧ w' = w :=
  Tryd.strings_CutPrefix (B l) (B p) w
set_option maxHeartbeats 400000 in
theorem signif_any (l : List UInt8) (w : World) (hs : l.length < 4294967296) : Calls Tryd.prog 30 #[.string (B l)] w fun e w' => e = .returned (.string (B (bar l))) ∧ Below w.heap.size w w' := by
  have c := fun w => trim_any l w
  have c2 := fun w => clone_any (bar l) w (by have := bar_le l; omega)
  go_enter Tryd.func30, Tryd.ntmps30
  go_wp2_with (first | (go_at_call 42; refine (c _).mono ?_; rintro x w1 ⟨rfl, rfl⟩) | (go_at_call 41; refine (c2 _).mono ?_; rintro x w2 ⟨rfl, hb2⟩))
  go_ret
  exact ⟨rfl, hb2⟩
/-- parts, as a value -/
def PV (c : Int) (s g : Bool) (d : List UInt8) (e : Int) : Value := .agg #[.int .i64 c, .bool s, .bool g, .string (B d), .int .i64 e]
def clampE (e : Int) : Int := min (max e (-1000000000)) 1000000000
/-- behind the point, and behind that -/
def frac (s : List UInt8) : List UInt8 := if Lib.hasPrefix (rst s) [46] then dgs (Lib.trimPrefix (rst s) [46]) else []
def behind (s : List UInt8) : List UInt8 := if Lib.hasPrefix (rst s) [46] then rst (Lib.trimPrefix (rst s) [46]) else rst s
def finB (s : List UInt8) : Bool := exB (behind s) && !((dgs s).isEmpty && (frac s).isEmpty)
def finD (s : List UInt8) : List UInt8 := bar (dgs s ++ frac s)
def finE (s : List UInt8) : Int := clampE (exI (behind s) - (frac s).length)
theorem trimPre_le (l p : List UInt8) : (Lib.trimPrefix l p).length ≤ l.length := by unfold Lib.trimPrefix; split <;> simp
theorem frac_le (s : List UInt8) : (frac s).length ≤ s.length := by
  unfold frac; split
  · exact Nat.le_trans (dgs_le _) (Nat.le_trans (trimPre_le _ _) (rst_le _))
  · simp
theorem behind_le (s : List UInt8) : (behind s).length ≤ s.length := by
  unfold behind; split
  · exact Nat.le_trans (rst_le _) (Nat.le_trans (trimPre_le _ _) (rst_le _))
  · exact rst_le _
theorem exS_bd (r : List UInt8) (h : isd (sgR r) = true) : -2000000000 ≤ exS r ∧ exS r ≤ 2000000000 := by
  have := vc_bd (isd_all h)
  unfold exS; split <;> omega
theorem exI_bd (l : List UInt8) : -2000000000 ≤ exI l ∧ exI l ≤ 2000000000 := by
  cases l with
  | nil => show -2000000000 ≤ (0 : Int) ∧ (0 : Int) ≤ 2000000000; omega
  | cons c r =>
    show -2000000000 ≤ (if exB (c :: r) then exS r else 0) ∧ (if exB (c :: r) then exS r else 0) ≤ 2000000000
    by_cases h : exB (c :: r) = true
    · rw [if_pos h]
      have : isd (sgR r) = true := by
        have h2 : (decide _ && isd (sgR r)) = true := h
        rw [Bool.and_eq_true] at h2; exact h2.2
      exact exS_bd r this
    · rw [if_neg h]; omega
/-- without a point -/
def npB (s : List UInt8) : Bool := exB (rst s) && !(dgs s).isEmpty
set_option maxHeartbeats 2000000 in
theorem finite_np (s : List UInt8) (w : World) (hs : s.length < 10001) (hp : Lib.hasPrefix (rst s) [46] = false) :
    Calls Tryd.prog 17 #[.string (B s)] w fun e w' => e = .returned (.tuple #[if npB s then PV 1 false false (bar (dgs s)) (clampE (exI (rst s))) else PV 0 false false [] 0, .bool (npB s)]) ∧ Below w.heap.size w w' := by
  have htl := B_toList
  have c27 := fun w => ldig_any s w (by omega)
  have c28 : ∀ w, Calls Tryd.prog 28 #[.string (B (rst s)), .string ⟨#[46]⟩] w fun e w' => e = .returned (.tuple #[.string (B (Lib.trimPrefix (rst s) [46])), .bool (Lib.hasPrefix (rst s) [46])]) ∧ w' = w := fun w => cutp_any (rst s) [46] w
  rw [hp] at c28
  have hdl := dgs_le s
  have c29 := fun w => exponent_any (rst s) w (by have := rst_le s; omega)
  have hx := exI_bd (rst s)
  have c30 := fun w => signif_any (dgs s) w (by omega)
  unfold npB PV clampE
  generalize bar (dgs s) = D at *
  generalize Lib.trimPrefix (rst s) [46] = T at *
  generalize rst s = R at *
  generalize exI R = E at *
  generalize exB R = z at *
  clear hp
  cases z
  · rw [Bool.false_and]
    clear c30
    generalize dgs s = X at *
    simp only [Bool.false_eq_true, if_false]
    go_enter Tryd.func17, Tryd.ntmps17
    go_wp2_with (first | (go_at_call 27; refine (c27 _).mono ?_; rintro x w1 ⟨rfl, hb1⟩; obtain ⟨hc1, hf1⟩ := bcell hb1; have hz1_0 : w.heap.size < w1.heap.size := lt_below hb1 (by first | with_reducible assumption | (simp; done) | (simp; omega)); have hl1_0 := Nat.le_of_lt hz1_0; have hA1 := bnext (w0 := w) (by (repeat (first | with_reducible assumption | with_reducible exact Below.refl _ _ | with_reducible refine Below.setCell ?_ (by first | omega | (dsimp only; omega) | (simp <;> omega)) _ | with_reducible refine Below.alloc ?_ (by first | omega | (simp <;> omega)) _ | with_reducible refine Below.drew ?_))) hb1; have hs1 := hA1.size; clear hb1) | (go_at_call 28; refine (c28 _).mono ?_; rintro x w2 ⟨rfl, rfl⟩) | (go_at_call 29; refine (c29 _).mono ?_; rintro x w3 ⟨rfl, hb3⟩; obtain ⟨hc3, hf3⟩ := bcell hb3; have hz3_0 : w.heap.size < w3.heap.size := lt_below hb3 (by first | with_reducible assumption | (simp; done) | (simp; omega)); have hl3_0 := Nat.le_of_lt hz3_0; have hA3 := bnext (w0 := w) (by (repeat (first | with_reducible assumption | with_reducible exact Below.refl _ _ | with_reducible refine Below.setCell ?_ (by first | omega | (dsimp only; omega) | (simp <;> omega)) _ | with_reducible refine Below.alloc ?_ (by first | omega | (simp <;> omega)) _ | with_reducible refine Below.drew ?_))) hb3; have hs3 := hA3.size; clear hb3) | (go_at_call 30; refine (c30 _).mono ?_; rintro x w4 ⟨rfl, hb4⟩; obtain ⟨hc4, hf4⟩ := bcell hb4; have hz4_0 : w.heap.size < w4.heap.size := lt_below hb4 (by first | with_reducible assumption | (simp; done) | (simp; omega)); have hl4_0 := Nat.le_of_lt hz4_0; have hA4 := bnext (w0 := w) (by (repeat (first | with_reducible assumption | with_reducible exact Below.refl _ _ | with_reducible refine Below.setCell ?_ (by first | omega | (dsimp only; omega) | (simp <;> omega)) _ | with_reducible refine Below.alloc ?_ (by first | omega | (simp <;> omega)) _ | with_reducible refine Below.drew ?_))) hb4; have hs4 := hA4.size; clear hb4))
    exact bodyPost_ret (v := .tuple #[.agg #[.int .i64 0, .bool false, .bool false, .string ⟨#[]⟩, .int .i64 0], .bool false]) (by simp only [results, Tryd.results17]; go_simp) rfl ⟨rfl, by (repeat (first | with_reducible assumption | with_reducible exact Below.refl _ _ | with_reducible refine Below.setCell ?_ (by first | omega | (dsimp only; omega) | (simp <;> omega)) _ | with_reducible refine Below.alloc ?_ (by first | omega | (simp <;> omega)) _ | with_reducible refine Below.drew ?_))⟩
  · rw [Bool.true_and]
    generalize dgs s = X at *
    cases X with
    | nil =>
      clear c30
      simp only [List.isEmpty_nil, Bool.not_true, Bool.false_eq_true, if_false]
      go_enter Tryd.func17, Tryd.ntmps17
      go_wp2_with (first | (go_at_call 27; refine (c27 _).mono ?_; rintro x w1 ⟨rfl, hb1⟩; obtain ⟨hc1, hf1⟩ := bcell hb1; have hz1_0 : w.heap.size < w1.heap.size := lt_below hb1 (by first | with_reducible assumption | (simp; done) | (simp; omega)); have hl1_0 := Nat.le_of_lt hz1_0; have hA1 := bnext (w0 := w) (by (repeat (first | with_reducible assumption | with_reducible exact Below.refl _ _ | with_reducible refine Below.setCell ?_ (by first | omega | (dsimp only; omega) | (simp <;> omega)) _ | with_reducible refine Below.alloc ?_ (by first | omega | (simp <;> omega)) _ | with_reducible refine Below.drew ?_))) hb1; have hs1 := hA1.size; clear hb1) | (go_at_call 28; refine (c28 _).mono ?_; rintro x w2 ⟨rfl, rfl⟩) | (go_at_call 29; refine (c29 _).mono ?_; rintro x w3 ⟨rfl, hb3⟩; obtain ⟨hc3, hf3⟩ := bcell hb3; have hz3_0 : w.heap.size < w3.heap.size := lt_below hb3 (by first | with_reducible assumption | (simp; done) | (simp; omega)); have hl3_0 := Nat.le_of_lt hz3_0; have hA3 := bnext (w0 := w) (by (repeat (first | with_reducible assumption | with_reducible exact Below.refl _ _ | with_reducible refine Below.setCell ?_ (by first | omega | (dsimp only; omega) | (simp <;> omega)) _ | with_reducible refine Below.alloc ?_ (by first | omega | (simp <;> omega)) _ | with_reducible refine Below.drew ?_))) hb3; have hs3 := hA3.size; clear hb3) | (go_at_call 30; refine (c30 _).mono ?_; rintro x w4 ⟨rfl, hb4⟩; obtain ⟨hc4, hf4⟩ := bcell hb4; have hz4_0 : w.heap.size < w4.heap.size := lt_below hb4 (by first | with_reducible assumption | (simp; done) | (simp; omega)); have hl4_0 := Nat.le_of_lt hz4_0; have hA4 := bnext (w0 := w) (by (repeat (first | with_reducible assumption | with_reducible exact Below.refl _ _ | with_reducible refine Below.setCell ?_ (by first | omega | (dsimp only; omega) | (simp <;> omega)) _ | with_reducible refine Below.alloc ?_ (by first | omega | (simp <;> omega)) _ | with_reducible refine Below.drew ?_))) hb4; have hs4 := hA4.size; clear hb4))
      exact bodyPost_ret (v := .tuple #[.agg #[.int .i64 0, .bool false, .bool false, .string ⟨#[]⟩, .int .i64 0], .bool false]) (by simp only [results, Tryd.results17]; go_simp) rfl ⟨rfl, by (repeat (first | with_reducible assumption | with_reducible exact Below.refl _ _ | with_reducible refine Below.setCell ?_ (by first | omega | (dsimp only; omega) | (simp <;> omega)) _ | with_reducible refine Below.alloc ?_ (by first | omega | (simp <;> omega)) _ | with_reducible refine Below.drew ?_))⟩
    | cons x xs =>
      simp only [List.isEmpty_cons, Bool.not_false, if_true]
      have hap := B_app (x :: xs) []
      rw [List.append_nil] at hap
      have hb9 : (B (x :: xs)).size < 10001 := by rw [B_size]; omega
      have hn : B [] = ⟨#[]⟩ := rfl
      have hn0 : (⟨#[]⟩ : ByteArray).size = 0 := rfl
      rw [hn] at hap
      go_enter Tryd.func17, Tryd.ntmps17
      go_wp2_with (first | (go_at_call 27; refine (c27 _).mono ?_; rintro x w1 ⟨rfl, hb1⟩; obtain ⟨hc1, hf1⟩ := bcell hb1; have hz1_0 : w.heap.size < w1.heap.size := lt_below hb1 (by first | with_reducible assumption | (simp; done) | (simp; omega)); have hl1_0 := Nat.le_of_lt hz1_0; have hA1 := bnext (w0 := w) (by (repeat (first | with_reducible assumption | with_reducible exact Below.refl _ _ | with_reducible refine Below.setCell ?_ (by first | omega | (dsimp only; omega) | (simp <;> omega)) _ | with_reducible refine Below.alloc ?_ (by first | omega | (simp <;> omega)) _ | with_reducible refine Below.drew ?_))) hb1; have hs1 := hA1.size; clear hb1) | (go_at_call 28; refine (c28 _).mono ?_; rintro x w2 ⟨rfl, rfl⟩) | (go_at_call 29; refine (c29 _).mono ?_; rintro x w3 ⟨rfl, hb3⟩; obtain ⟨hc3, hf3⟩ := bcell hb3; have hz3_0 : w.heap.size < w3.heap.size := lt_below hb3 (by first | with_reducible assumption | (simp; done) | (simp; omega)); have hl3_0 := Nat.le_of_lt hz3_0; have hA3 := bnext (w0 := w) (by (repeat (first | with_reducible assumption | with_reducible exact Below.refl _ _ | with_reducible refine Below.setCell ?_ (by first | omega | (dsimp only; omega) | (simp <;> omega)) _ | with_reducible refine Below.alloc ?_ (by first | omega | (simp <;> omega)) _ | with_reducible refine Below.drew ?_))) hb3; have hs3 := hA3.size; clear hb3) | (go_at_call 30; refine (c30 _).mono ?_; rintro x w4 ⟨rfl, hb4⟩; obtain ⟨hc4, hf4⟩ := bcell hb4; have hz4_0 : w.heap.size < w4.heap.size := lt_below hb4 (by first | with_reducible assumption | (simp; done) | (simp; omega)); have hl4_0 := Nat.le_of_lt hz4_0; have hA4 := bnext (w0 := w) (by (repeat (first | with_reducible assumption | with_reducible exact Below.refl _ _ | with_reducible refine Below.setCell ?_ (by first | omega | (dsimp only; omega) | (simp <;> omega)) _ | with_reducible refine Below.alloc ?_ (by first | omega | (simp <;> omega)) _ | with_reducible refine Below.drew ?_))) hb4; have hs4 := hA4.size; clear hb4))
      exact bodyPost_ret (v := .tuple #[.agg #[.int .i64 1, .bool false, .bool false, .string (B D), .int .i64 (min (max E (-1000000000)) 1000000000)], .bool true]) (by simp only [results, Tryd.results17]; go_simp) rfl ⟨rfl, by (repeat (first | with_reducible assumption | with_reducible exact Below.refl _ _ | with_reducible refine Below.setCell ?_ (by first | omega | (dsimp only; omega) | (simp <;> omega)) _ | with_reducible refine Below.alloc ?_ (by first | omega | (simp <;> omega)) _ | with_reducible refine Below.drew ?_))⟩
/-- with a point -/
def ptB (X T : List UInt8) : Bool := exB (rst T) && !(X.isEmpty && (dgs T).isEmpty)
set_option maxHeartbeats 2000000 in
theorem finite_pt (s T : List UInt8) (w : World) (hs : s.length < 10001) (hp : Lib.hasPrefix (rst s) [46] = true) (hT : Lib.trimPrefix (rst s) [46] = T) :
    Calls Tryd.prog 17 #[.string (B s)] w fun e w' => e = .returned (.tuple #[if ptB (dgs s) T then PV 1 false false (bar (dgs s ++ dgs T)) (clampE (exI (rst T) - (dgs T).length)) else PV 0 false false [] 0, .bool (ptB (dgs s) T)]) ∧ Below w.heap.size w w' := by
  have htl := B_toList
  have c27 := fun w => ldig_any s w (by omega)
  have c28 : ∀ w, Calls Tryd.prog 28 #[.string (B (rst s)), .string ⟨#[46]⟩] w fun e w' => e = .returned (.tuple #[.string (B (Lib.trimPrefix (rst s) [46])), .bool (Lib.hasPrefix (rst s) [46])]) ∧ w' = w := fun w => cutp_any (rst s) [46] w
  rw [hp] at c28
  have hdl := dgs_le s
  rw [hT] at c28
  have hTl : T.length ≤ s.length := by rw [← hT]; exact Nat.le_trans (trimPre_le _ _) (rst_le _)
  have hFl := dgs_le T
  have c27b := fun w => ldig_any T w (by omega)
  have c29 := fun w => exponent_any (rst T) w (by have := rst_le T; omega)
  have hx := exI_bd (rst T)
  have c30 := fun w => signif_any (dgs s ++ dgs T) w (by rw [List.length_append]; omega)
  have hap := B_app (dgs s) (dgs T)
  unfold ptB PV clampE
  generalize bar (dgs s ++ dgs T) = D at *
  clear hT hp
  generalize rst s = R at *
  generalize exI (rst T) = E at *
  generalize exB (rst T) = z at *
  generalize rst T = R2 at *
  generalize dgs T = F at *
  have hszF := B_size F
  have hF9 : (B F).size < 10001 := by rw [hszF]; omega
  cases z
  · rw [Bool.false_and]
    clear c30 hap
    generalize dgs s = X at *
    simp only [Bool.false_eq_true, if_false]
    go_enter Tryd.func17, Tryd.ntmps17
    go_wp2_with (first | (go_at_call 27; refine (c27 _).mono ?_; rintro x w1 ⟨rfl, hb1⟩; clear c27; obtain ⟨hc1, hf1⟩ := bcell hb1; have hz1_0 : w.heap.size < w1.heap.size := lt_below hb1 (by first | with_reducible assumption | (simp; done) | (simp; omega)); have hl1_0 := Nat.le_of_lt hz1_0; have hA1 := bnext (w0 := w) (by (repeat (first | with_reducible assumption | with_reducible exact Below.refl _ _ | with_reducible refine Below.setCell ?_ (by first | omega | (dsimp only; omega) | (simp <;> omega)) _ | with_reducible refine Below.alloc ?_ (by first | omega | (simp <;> omega)) _ | with_reducible refine Below.drew ?_))) hb1; have hs1 := hA1.size; clear hb1) | (go_at_call 28; refine (c28 _).mono ?_; rintro x w2 ⟨rfl, rfl⟩))
    go_wp2_with (first | (go_at_call 27; refine (c27b _).mono ?_; rintro x w5 ⟨rfl, hb5⟩; obtain ⟨hc5, hf5⟩ := bcell hb5; have hz5_0 : w.heap.size < w5.heap.size := lt_below hb5 (by first | with_reducible assumption | (simp; done) | (simp; omega)); have hl5_0 := Nat.le_of_lt hz5_0; have hA5 := bnext (w0 := w) (by (repeat (first | with_reducible assumption | with_reducible exact Below.refl _ _ | with_reducible refine Below.setCell ?_ (by first | omega | (dsimp only; omega) | (simp <;> omega)) _ | with_reducible refine Below.alloc ?_ (by first | omega | (simp <;> omega)) _ | with_reducible refine Below.drew ?_))) hb5; have hs5 := hA5.size; clear hb5) | (go_at_call 29; refine (c29 _).mono ?_; rintro x w3 ⟨rfl, hb3⟩; obtain ⟨hc3, hf3⟩ := bcell hb3; have hz3_0 : w.heap.size < w3.heap.size := lt_below hb3 (by first | with_reducible assumption | (simp; done) | (simp; omega)); have hl3_0 := Nat.le_of_lt hz3_0; have hA3 := bnext (w0 := w) (by (repeat (first | with_reducible assumption | with_reducible exact Below.refl _ _ | with_reducible refine Below.setCell ?_ (by first | omega | (dsimp only; omega) | (simp <;> omega)) _ | with_reducible refine Below.alloc ?_ (by first | omega | (simp <;> omega)) _ | with_reducible refine Below.drew ?_))) hb3; have hs3 := hA3.size; clear hb3) | (go_at_call 30; refine (c30 _).mono ?_; rintro x w4 ⟨rfl, hb4⟩; obtain ⟨hc4, hf4⟩ := bcell hb4; have hz4_0 : w.heap.size < w4.heap.size := lt_below hb4 (by first | with_reducible assumption | (simp; done) | (simp; omega)); have hl4_0 := Nat.le_of_lt hz4_0; have hA4 := bnext (w0 := w) (by (repeat (first | with_reducible assumption | with_reducible exact Below.refl _ _ | with_reducible refine Below.setCell ?_ (by first | omega | (dsimp only; omega) | (simp <;> omega)) _ | with_reducible refine Below.alloc ?_ (by first | omega | (simp <;> omega)) _ | with_reducible refine Below.drew ?_))) hb4; have hs4 := hA4.size; clear hb4))
    exact bodyPost_ret (v := .tuple #[.agg #[.int .i64 0, .bool false, .bool false, .string ⟨#[]⟩, .int .i64 0], .bool false]) (by simp only [results, Tryd.results17]; go_simp) rfl ⟨rfl, by (repeat (first | with_reducible assumption | with_reducible exact Below.refl _ _ | with_reducible refine Below.setCell ?_ (by first | omega | (dsimp only; omega) | (simp <;> omega)) _ | with_reducible refine Below.alloc ?_ (by first | omega | (simp <;> omega)) _ | with_reducible refine Below.drew ?_))⟩
  · rw [Bool.true_and]
    generalize dgs s = X at *
    cases X with
    | nil =>
      cases F with
      | nil =>
        clear c30 hap
        simp only [List.isEmpty_nil, Bool.true_and, Bool.not_true, Bool.false_eq_true, if_false]
        go_enter Tryd.func17, Tryd.ntmps17
        go_wp2_with (first | (go_at_call 27; refine (c27 _).mono ?_; rintro x w1 ⟨rfl, hb1⟩; clear c27; obtain ⟨hc1, hf1⟩ := bcell hb1; have hz1_0 : w.heap.size < w1.heap.size := lt_below hb1 (by first | with_reducible assumption | (simp; done) | (simp; omega)); have hl1_0 := Nat.le_of_lt hz1_0; have hA1 := bnext (w0 := w) (by (repeat (first | with_reducible assumption | with_reducible exact Below.refl _ _ | with_reducible refine Below.setCell ?_ (by first | omega | (dsimp only; omega) | (simp <;> omega)) _ | with_reducible refine Below.alloc ?_ (by first | omega | (simp <;> omega)) _ | with_reducible refine Below.drew ?_))) hb1; have hs1 := hA1.size; clear hb1) | (go_at_call 28; refine (c28 _).mono ?_; rintro x w2 ⟨rfl, rfl⟩))
        go_wp2_with (first | (go_at_call 27; refine (c27b _).mono ?_; rintro x w5 ⟨rfl, hb5⟩; obtain ⟨hc5, hf5⟩ := bcell hb5; have hz5_0 : w.heap.size < w5.heap.size := lt_below hb5 (by first | with_reducible assumption | (simp; done) | (simp; omega)); have hl5_0 := Nat.le_of_lt hz5_0; have hA5 := bnext (w0 := w) (by (repeat (first | with_reducible assumption | with_reducible exact Below.refl _ _ | with_reducible refine Below.setCell ?_ (by first | omega | (dsimp only; omega) | (simp <;> omega)) _ | with_reducible refine Below.alloc ?_ (by first | omega | (simp <;> omega)) _ | with_reducible refine Below.drew ?_))) hb5; have hs5 := hA5.size; clear hb5) | (go_at_call 29; refine (c29 _).mono ?_; rintro x w3 ⟨rfl, hb3⟩; obtain ⟨hc3, hf3⟩ := bcell hb3; have hz3_0 : w.heap.size < w3.heap.size := lt_below hb3 (by first | with_reducible assumption | (simp; done) | (simp; omega)); have hl3_0 := Nat.le_of_lt hz3_0; have hA3 := bnext (w0 := w) (by (repeat (first | with_reducible assumption | with_reducible exact Below.refl _ _ | with_reducible refine Below.setCell ?_ (by first | omega | (dsimp only; omega) | (simp <;> omega)) _ | with_reducible refine Below.alloc ?_ (by first | omega | (simp <;> omega)) _ | with_reducible refine Below.drew ?_))) hb3; have hs3 := hA3.size; clear hb3) | (go_at_call 30; refine (c30 _).mono ?_; rintro x w4 ⟨rfl, hb4⟩; obtain ⟨hc4, hf4⟩ := bcell hb4; have hz4_0 : w.heap.size < w4.heap.size := lt_below hb4 (by first | with_reducible assumption | (simp; done) | (simp; omega)); have hl4_0 := Nat.le_of_lt hz4_0; have hA4 := bnext (w0 := w) (by (repeat (first | with_reducible assumption | with_reducible exact Below.refl _ _ | with_reducible refine Below.setCell ?_ (by first | omega | (dsimp only; omega) | (simp <;> omega)) _ | with_reducible refine Below.alloc ?_ (by first | omega | (simp <;> omega)) _ | with_reducible refine Below.drew ?_))) hb4; have hs4 := hA4.size; clear hb4))
        exact bodyPost_ret (v := .tuple #[.agg #[.int .i64 0, .bool false, .bool false, .string ⟨#[]⟩, .int .i64 0], .bool false]) (by simp only [results, Tryd.results17]; go_simp) rfl ⟨rfl, by (repeat (first | with_reducible assumption | with_reducible exact Below.refl _ _ | with_reducible refine Below.setCell ?_ (by first | omega | (dsimp only; omega) | (simp <;> omega)) _ | with_reducible refine Below.alloc ?_ (by first | omega | (simp <;> omega)) _ | with_reducible refine Below.drew ?_))⟩
      | cons f fs =>
        simp only [List.isEmpty_nil, List.isEmpty_cons, Bool.true_and, Bool.not_false, if_true]
        have hb9 : (B []).size = 0 := rfl
        have hfs : fs.length + 1 < 10001 := by rw [List.length_cons] at hFl; omega
        go_enter Tryd.func17, Tryd.ntmps17
        go_wp2_with (first | (go_at_call 27; refine (c27 _).mono ?_; rintro x w1 ⟨rfl, hb1⟩; clear c27; obtain ⟨hc1, hf1⟩ := bcell hb1; have hz1_0 : w.heap.size < w1.heap.size := lt_below hb1 (by first | with_reducible assumption | (simp; done) | (simp; omega)); have hl1_0 := Nat.le_of_lt hz1_0; have hA1 := bnext (w0 := w) (by (repeat (first | with_reducible assumption | with_reducible exact Below.refl _ _ | with_reducible refine Below.setCell ?_ (by first | omega | (dsimp only; omega) | (simp <;> omega)) _ | with_reducible refine Below.alloc ?_ (by first | omega | (simp <;> omega)) _ | with_reducible refine Below.drew ?_))) hb1; have hs1 := hA1.size; clear hb1) | (go_at_call 28; refine (c28 _).mono ?_; rintro x w2 ⟨rfl, rfl⟩))
        go_wp2_with (first | (go_at_call 27; refine (c27b _).mono ?_; rintro x w5 ⟨rfl, hb5⟩; obtain ⟨hc5, hf5⟩ := bcell hb5; have hz5_0 : w.heap.size < w5.heap.size := lt_below hb5 (by first | with_reducible assumption | (simp; done) | (simp; omega)); have hl5_0 := Nat.le_of_lt hz5_0; have hA5 := bnext (w0 := w) (by (repeat (first | with_reducible assumption | with_reducible exact Below.refl _ _ | with_reducible refine Below.setCell ?_ (by first | omega | (dsimp only; omega) | (simp <;> omega)) _ | with_reducible refine Below.alloc ?_ (by first | omega | (simp <;> omega)) _ | with_reducible refine Below.drew ?_))) hb5; have hs5 := hA5.size; clear hb5) | (go_at_call 29; refine (c29 _).mono ?_; rintro x w3 ⟨rfl, hb3⟩; obtain ⟨hc3, hf3⟩ := bcell hb3; have hz3_0 : w.heap.size < w3.heap.size := lt_below hb3 (by first | with_reducible assumption | (simp; done) | (simp; omega)); have hl3_0 := Nat.le_of_lt hz3_0; have hA3 := bnext (w0 := w) (by (repeat (first | with_reducible assumption | with_reducible exact Below.refl _ _ | with_reducible refine Below.setCell ?_ (by first | omega | (dsimp only; omega) | (simp <;> omega)) _ | with_reducible refine Below.alloc ?_ (by first | omega | (simp <;> omega)) _ | with_reducible refine Below.drew ?_))) hb3; have hs3 := hA3.size; clear hb3) | (go_at_call 30; refine (c30 _).mono ?_; rintro x w4 ⟨rfl, hb4⟩; obtain ⟨hc4, hf4⟩ := bcell hb4; have hz4_0 : w.heap.size < w4.heap.size := lt_below hb4 (by first | with_reducible assumption | (simp; done) | (simp; omega)); have hl4_0 := Nat.le_of_lt hz4_0; have hA4 := bnext (w0 := w) (by (repeat (first | with_reducible assumption | with_reducible exact Below.refl _ _ | with_reducible refine Below.setCell ?_ (by first | omega | (dsimp only; omega) | (simp <;> omega)) _ | with_reducible refine Below.alloc ?_ (by first | omega | (simp <;> omega)) _ | with_reducible refine Below.drew ?_))) hb4; have hs4 := hA4.size; clear hb4))
        exact bodyPost_ret (v := .tuple #[.agg #[.int .i64 1, .bool false, .bool false, .string (B D), .int .i64 (min (max (E - (f :: fs).length) (-1000000000)) 1000000000)], .bool true]) (by simp only [results, Tryd.results17]; go_simp) rfl ⟨rfl, by (repeat (first | with_reducible assumption | with_reducible exact Below.refl _ _ | with_reducible refine Below.setCell ?_ (by first | omega | (dsimp only; omega) | (simp <;> omega)) _ | with_reducible refine Below.alloc ?_ (by first | omega | (simp <;> omega)) _ | with_reducible refine Below.drew ?_))⟩
    | cons x xs =>
      simp only [List.isEmpty_cons, Bool.false_and, Bool.not_false, if_true]
      have hb9 : (B (x :: xs)).size < 10001 := by rw [B_size]; omega
      go_enter Tryd.func17, Tryd.ntmps17
      go_wp2_with (first | (go_at_call 27; refine (c27 _).mono ?_; rintro x w1 ⟨rfl, hb1⟩; clear c27; obtain ⟨hc1, hf1⟩ := bcell hb1; have hz1_0 : w.heap.size < w1.heap.size := lt_below hb1 (by first | with_reducible assumption | (simp; done) | (simp; omega)); have hl1_0 := Nat.le_of_lt hz1_0; have hA1 := bnext (w0 := w) (by (repeat (first | with_reducible assumption | with_reducible exact Below.refl _ _ | with_reducible refine Below.setCell ?_ (by first | omega | (dsimp only; omega) | (simp <;> omega)) _ | with_reducible refine Below.alloc ?_ (by first | omega | (simp <;> omega)) _ | with_reducible refine Below.drew ?_))) hb1; have hs1 := hA1.size; clear hb1) | (go_at_call 28; refine (c28 _).mono ?_; rintro x w2 ⟨rfl, rfl⟩))
      go_wp2_with (first | (go_at_call 27; refine (c27b _).mono ?_; rintro x w5 ⟨rfl, hb5⟩; obtain ⟨hc5, hf5⟩ := bcell hb5; have hz5_0 : w.heap.size < w5.heap.size := lt_below hb5 (by first | with_reducible assumption | (simp; done) | (simp; omega)); have hl5_0 := Nat.le_of_lt hz5_0; have hA5 := bnext (w0 := w) (by (repeat (first | with_reducible assumption | with_reducible exact Below.refl _ _ | with_reducible refine Below.setCell ?_ (by first | omega | (dsimp only; omega) | (simp <;> omega)) _ | with_reducible refine Below.alloc ?_ (by first | omega | (simp <;> omega)) _ | with_reducible refine Below.drew ?_))) hb5; have hs5 := hA5.size; clear hb5) | (go_at_call 29; refine (c29 _).mono ?_; rintro x w3 ⟨rfl, hb3⟩; obtain ⟨hc3, hf3⟩ := bcell hb3; have hz3_0 : w.heap.size < w3.heap.size := lt_below hb3 (by first | with_reducible assumption | (simp; done) | (simp; omega)); have hl3_0 := Nat.le_of_lt hz3_0; have hA3 := bnext (w0 := w) (by (repeat (first | with_reducible assumption | with_reducible exact Below.refl _ _ | with_reducible refine Below.setCell ?_ (by first | omega | (dsimp only; omega) | (simp <;> omega)) _ | with_reducible refine Below.alloc ?_ (by first | omega | (simp <;> omega)) _ | with_reducible refine Below.drew ?_))) hb3; have hs3 := hA3.size; clear hb3) | (go_at_call 30; refine (c30 _).mono ?_; rintro x w4 ⟨rfl, hb4⟩; obtain ⟨hc4, hf4⟩ := bcell hb4; have hz4_0 : w.heap.size < w4.heap.size := lt_below hb4 (by first | with_reducible assumption | (simp; done) | (simp; omega)); have hl4_0 := Nat.le_of_lt hz4_0; have hA4 := bnext (w0 := w) (by (repeat (first | with_reducible assumption | with_reducible exact Below.refl _ _ | with_reducible refine Below.setCell ?_ (by first | omega | (dsimp only; omega) | (simp <;> omega)) _ | with_reducible refine Below.alloc ?_ (by first | omega | (simp <;> omega)) _ | with_reducible refine Below.drew ?_))) hb4; have hs4 := hA4.size; clear hb4))
      exact bodyPost_ret (v := .tuple #[.agg #[.int .i64 1, .bool false, .bool false, .string (B D), .int .i64 (min (max (E - F.length) (-1000000000)) 1000000000)], .bool true]) (by simp only [results, Tryd.results17]; go_simp) rfl ⟨rfl, by (repeat (first | with_reducible assumption | with_reducible exact Below.refl _ _ | with_reducible refine Below.setCell ?_ (by first | omega | (dsimp only; omega) | (simp <;> omega)) _ | with_reducible refine Below.alloc ?_ (by first | omega | (simp <;> omega)) _ | with_reducible refine Below.drew ?_))⟩
theorem fin_eq (s : List UInt8) (w : World) (hs : s.length < 10001) :
    Calls Tryd.prog 17 #[.string (B s)] w fun e w' => e = .returned (.tuple #[if finB s then PV 1 false false (finD s) (finE s) else PV 0 false false [] 0, .bool (finB s)]) ∧ Below w.heap.size w w' := by
  by_cases hp : Lib.hasPrefix (rst s) [46] = true
  · have c := finite_pt s _ w hs hp rfl
    have e1 : finB s = ptB (dgs s) (Lib.trimPrefix (rst s) [46]) := by unfold finB ptB frac behind; rw [if_pos hp, if_pos hp]
    have e2 : finD s = bar (dgs s ++ dgs (Lib.trimPrefix (rst s) [46])) := by unfold finD frac; rw [if_pos hp]
    have e3 : finE s = clampE (exI (rst (Lib.trimPrefix (rst s) [46])) - (dgs (Lib.trimPrefix (rst s) [46])).length) := by unfold finE frac behind; rw [if_pos hp, if_pos hp]
    rw [e1, e2, e3]; exact c
  · have hp' : Lib.hasPrefix (rst s) [46] = false := by simpa using hp
    have c := finite_np s w hs hp'
    have e1 : finB s = npB s := by unfold finB npB frac behind; rw [if_neg hp, if_neg hp]; simp
    have e2 : finD s = bar (dgs s) := by unfold finD frac; rw [if_neg hp, List.append_nil]
    have e3 : finE s = clampE (exI (rst s)) := by unfold finE frac behind; rw [if_neg hp, if_neg hp]; simp
    rw [e1, e2, e3]; exact c
end Go.Proofs.YtgjdhfmpemionaaDoor
