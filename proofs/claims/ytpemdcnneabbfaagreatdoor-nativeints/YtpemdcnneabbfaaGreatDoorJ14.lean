/-
  Texts that the proof leans on.
-/
import Derived.Test.YtpemdcnneabbfaaGreatDoorJ10
import Derived.Test.YtpemdcnneabbfaaGreatDoorJ2
import Derived.Test.YtpemdcnneabbfaaGreatDoorJ3
set_option linter.unusedVariables false
set_option linter.unusedSimpArgs false
set_option linter.unusedSectionVars false
set_option maxRecDepth 20000
namespace Go.Proofs.YtpemdcnneabbfaaGreatDoor
open Go.RowKit
section
theorem gtrim_any (l : List UInt8) (w : World) : Calls Tryz.prog 115 #[.string (B l), .string ⟨#[48]⟩] w fun e w' => e = .returned (.string (B (bar l))) ∧ w' = w :=
  Tryz.strings_TrimLeft_one (B l) 48 (by decide) w
set_option maxHeartbeats 400000 in
theorem clone_any (l : List UInt8) (w : World) (hs : l.length < 4294967296) : Calls Tryz.prog 114 #[.string (B l)] w fun e w' => e = .returned (.string (B l)) ∧ Below w.heap.size w w' := by
  have c := fun w => Tryz.stringslite_Clone (B l) w (by rw [B_size]; omega)
  go_enter Tryz.func114, Tryz.ntmps114
  go_wp2_with (go_at_call 137; refine (c _).mono ?_; rintro x w1 ⟨rfl, hb1⟩)
  go_ret
  exact ⟨rfl, hb1⟩
theorem cutp_any (l p : List UInt8) (w : World) : Calls Tryz.prog 79 #[.string (B l), .string ⟨p.toArray⟩] w fun e w' => e = .returned (.tuple #[.string (B (Lib.trimPrefix l p)), .bool (Lib.hasPrefix l p)]) ∧ w' = w :=
  Tryz.strings_CutPrefix (B l) (B p) w
set_option maxHeartbeats 400000 in
theorem signif_any (l : List UInt8) (w : World) (hs : l.length < 4294967296) : Calls Tryz.prog 81 #[.string (B l)] w fun e w' => e = .returned (.string (B (bar l))) ∧ Below w.heap.size w w' := by
  have c := fun w => gtrim_any l w
  have c2 := fun w => clone_any (bar l) w (by have := bar_le l; omega)
  go_enter Tryz.func81, Tryz.ntmps81
  go_wp2_with (first | (go_at_call 115; refine (c _).mono ?_; rintro x w1 ⟨rfl, rfl⟩) | (go_at_call 114; refine (c2 _).mono ?_; rintro x w2 ⟨rfl, hb2⟩))
  go_ret
  exact ⟨rfl, hb2⟩
/-- parts, as a value -/
def PV (c : Int) (s g : Bool) (d : List UInt8) (e : Int) : Value := .agg #[.int .i64 c, .bool s, .bool g, .string (B d), .int .i64 e]
def clampE (e : Int) : Int := min (max e (-1000000000)) 1000000000
/-- behind the point, and behind that -/
def frac (s : List UInt8) : List UInt8 := if Lib.hasPrefix (rst s) [46] then dgs (Lib.trimPrefix (rst s) [46]) else []
def behind (s : List UInt8) : List UInt8 := if Lib.hasPrefix (rst s) [46] then rst (Lib.trimPrefix (rst s) [46]) else rst s
def finB (s : List UInt8) : Bool := exB (behind s) && !((dgs s).isEmpty && (frac s).isEmpty)
def finD (s : List UInt8) : List UInt8 := bar (dgs s ++ frac s)
def finE (s : List UInt8) : Int := clampE (exI (behind s) - (frac s).length)
theorem trimPre_le (l p : List UInt8) : (Lib.trimPrefix l p).length ≤ l.length := by unfold Lib.trimPrefix; split <;> simp
theorem exS_bd (r : List UInt8) (h : isd (sgR r) = true) : -2000000000 ≤ exS r ∧ exS r ≤ 2000000000 := by
  have := vc_bd (isd_all h)
  unfold exS; split <;> omega
theorem exI_bd (l : List UInt8) : -2000000000 ≤ exI l ∧ exI l ≤ 2000000000 := by
  cases l with
  | nil => show -2000000000 ≤ (0 : Int) ∧ (0 : Int) ≤ 2000000000; omega
  | cons c r =>
    show -2000000000 ≤ (if exB (c :: r) then exS r else 0) ∧ (if exB (c :: r) then exS r else 0) ≤ 2000000000
    by_cases h : exB (c :: r) = true
    · rw [if_pos h]
      have : isd (sgR r) = true := by
        have h2 : (decide _ && isd (sgR r)) = true := h
        rw [Bool.and_eq_true] at h2; exact h2.2
      exact exS_bd r this
    · rw [if_neg h]; omega
/-- without a point -/
def npB (s : List UInt8) : Bool := exB (rst s) && !(dgs s).isEmpty
set_option maxHeartbeats 2000000 in
theorem finite_np (s : List UInt8) (w : World) (hs : s.length < 10001) (hp : Lib.hasPrefix (rst s) [46] = false) :
    Calls Tryz.prog 43 #[.string (B s)] w fun e w' => e = .returned (.tuple #[if npB s then PV 1 false false (bar (dgs s)) (clampE (exI (rst s))) else PV 0 false false [] 0, .bool (npB s)]) ∧ Below w.heap.size w w' := by
  have htl := B_toList
  have c27 := fun w => ldig_any s w (by omega)
  have c28 : ∀ w, Calls Tryz.prog 79 #[.string (B (rst s)), .string ⟨#[46]⟩] w fun e w' => e = .returned (.tuple #[.string (B (Lib.trimPrefix (rst s) [46])), .bool (Lib.hasPrefix (rst s) [46])]) ∧ w' = w := fun w => cutp_any (rst s) [46] w
  rw [hp] at c28
  have hdl := dgs_le s
  have c29 := fun w => exponent_any (rst s) w (by have := rst_le s; omega)
  have hx := exI_bd (rst s)
  have c30 := fun w => signif_any (dgs s) w (by omega)
  unfold npB PV clampE
  generalize bar (dgs s) = D at *
  generalize Lib.trimPrefix (rst s) [46] = T at *
  generalize rst s = R at *
  generalize exI R = E at *
  generalize exB R = z at *
  clear hp
  cases z
  · rw [Bool.false_and]
    clear c30
    generalize dgs s = X at *
    simp only [Bool.false_eq_true, if_false]
    go_enter Tryz.func43, Tryz.ntmps43
    go_wp2_with (first | (go_at_call 78; refine (c27 _).mono ?_; rintro x w1 ⟨rfl, hb1⟩; obtain ⟨hc1, hf1⟩ := gbcell hb1; have hz1_0 : w.heap.size < w1.heap.size := glt_below hb1 ltg; have hl1_0 := Nat.le_of_lt hz1_0; have hA1 := gbnext (w0 := w) bgo hb1; have hs1 := hA1.size; clear hb1) | (go_at_call 79; refine (c28 _).mono ?_; rintro x w2 ⟨rfl, rfl⟩) | (go_at_call 80; refine (c29 _).mono ?_; rintro x w3 ⟨rfl, hb3⟩; obtain ⟨hc3, hf3⟩ := gbcell hb3; have hz3_0 : w.heap.size < w3.heap.size := glt_below hb3 ltg; have hl3_0 := Nat.le_of_lt hz3_0; have hA3 := gbnext (w0 := w) bgo hb3; have hs3 := hA3.size; clear hb3) | (go_at_call 81; refine (c30 _).mono ?_; rintro x w4 ⟨rfl, hb4⟩; obtain ⟨hc4, hf4⟩ := gbcell hb4; have hz4_0 : w.heap.size < w4.heap.size := glt_below hb4 ltg; have hl4_0 := Nat.le_of_lt hz4_0; have hA4 := gbnext (w0 := w) bgo hb4; have hs4 := hA4.size; clear hb4))
    exact bodyPost_ret (v := .tuple #[.agg #[.int .i64 0, .bool false, .bool false, .string ⟨#[]⟩, .int .i64 0], .bool false]) (by simp only [results, Tryz.results43]; go_simp) rfl ⟨rfl, bgo⟩
  · rw [Bool.true_and]
    generalize dgs s = X at *
    cases X with
    | nil =>
      clear c30
      simp only [List.isEmpty_nil, Bool.not_true, Bool.false_eq_true, if_false]
      go_enter Tryz.func43, Tryz.ntmps43
      go_wp2_with (first | (go_at_call 78; refine (c27 _).mono ?_; rintro x w1 ⟨rfl, hb1⟩; obtain ⟨hc1, hf1⟩ := gbcell hb1; have hz1_0 : w.heap.size < w1.heap.size := glt_below hb1 ltg; have hl1_0 := Nat.le_of_lt hz1_0; have hA1 := gbnext (w0 := w) bgo hb1; have hs1 := hA1.size; clear hb1) | (go_at_call 79; refine (c28 _).mono ?_; rintro x w2 ⟨rfl, rfl⟩) | (go_at_call 80; refine (c29 _).mono ?_; rintro x w3 ⟨rfl, hb3⟩; obtain ⟨hc3, hf3⟩ := gbcell hb3; have hz3_0 : w.heap.size < w3.heap.size := glt_below hb3 ltg; have hl3_0 := Nat.le_of_lt hz3_0; have hA3 := gbnext (w0 := w) bgo hb3; have hs3 := hA3.size; clear hb3) | (go_at_call 81; refine (c30 _).mono ?_; rintro x w4 ⟨rfl, hb4⟩; obtain ⟨hc4, hf4⟩ := gbcell hb4; have hz4_0 : w.heap.size < w4.heap.size := glt_below hb4 ltg; have hl4_0 := Nat.le_of_lt hz4_0; have hA4 := gbnext (w0 := w) bgo hb4; have hs4 := hA4.size; clear hb4))
      exact bodyPost_ret (v := .tuple #[.agg #[.int .i64 0, .bool false, .bool false, .string ⟨#[]⟩, .int .i64 0], .bool false]) (by simp only [results, Tryz.results43]; go_simp) rfl ⟨rfl, bgo⟩
    | cons x xs =>
      simp only [List.isEmpty_cons, Bool.not_false, if_true]
      have hap := B_app (x :: xs) []
      rw [List.append_nil] at hap
      have hb9 : (B (x :: xs)).size < 10001 := by rw [B_size]; omega
      have hn : B [] = ⟨#[]⟩ := rfl
      have hn0 : (⟨#[]⟩ : ByteArray).size = 0 := rfl
      rw [hn] at hap
      go_enter Tryz.func43, Tryz.ntmps43
      go_wp2_with (first | (go_at_call 78; refine (c27 _).mono ?_; rintro x w1 ⟨rfl, hb1⟩; obtain ⟨hc1, hf1⟩ := gbcell hb1; have hz1_0 : w.heap.size < w1.heap.size := glt_below hb1 ltg; have hl1_0 := Nat.le_of_lt hz1_0; have hA1 := gbnext (w0 := w) bgo hb1; have hs1 := hA1.size; clear hb1) | (go_at_call 79; refine (c28 _).mono ?_; rintro x w2 ⟨rfl, rfl⟩) | (go_at_call 80; refine (c29 _).mono ?_; rintro x w3 ⟨rfl, hb3⟩; obtain ⟨hc3, hf3⟩ := gbcell hb3; have hz3_0 : w.heap.size < w3.heap.size := glt_below hb3 ltg; have hl3_0 := Nat.le_of_lt hz3_0; have hA3 := gbnext (w0 := w) bgo hb3; have hs3 := hA3.size; clear hb3) | (go_at_call 81; refine (c30 _).mono ?_; rintro x w4 ⟨rfl, hb4⟩; obtain ⟨hc4, hf4⟩ := gbcell hb4; have hz4_0 : w.heap.size < w4.heap.size := glt_below hb4 ltg; have hl4_0 := Nat.le_of_lt hz4_0; have hA4 := gbnext (w0 := w) bgo hb4; have hs4 := hA4.size; clear hb4))
      exact bodyPost_ret (v := .tuple #[.agg #[.int .i64 1, .bool false, .bool false, .string (B D), .int .i64 (min (max E (-1000000000)) 1000000000)], .bool true]) (by simp only [results, Tryz.results43]; go_simp) rfl ⟨rfl, bgo⟩
/-- with a point -/
def ptB (X T : List UInt8) : Bool := exB (rst T) && !(X.isEmpty && (dgs T).isEmpty)
set_option maxHeartbeats 2000000 in
theorem finite_pt (s T : List UInt8) (w : World) (hs : s.length < 10001) (hp : Lib.hasPrefix (rst s) [46] = true) (hT : Lib.trimPrefix (rst s) [46] = T) :
    Calls Tryz.prog 43 #[.string (B s)] w fun e w' => e = .returned (.tuple #[if ptB (dgs s) T then PV 1 false false (bar (dgs s ++ dgs T)) (clampE (exI (rst T) - (dgs T).length)) else PV 0 false false [] 0, .bool (ptB (dgs s) T)]) ∧ Below w.heap.size w w' := by
  have htl := B_toList
  have c27 := fun w => ldig_any s w (by omega)
  have c28 : ∀ w, Calls Tryz.prog 79 #[.string (B (rst s)), .string ⟨#[46]⟩] w fun e w' => e = .returned (.tuple #[.string (B (Lib.trimPrefix (rst s) [46])), .bool (Lib.hasPrefix (rst s) [46])]) ∧ w' = w := fun w => cutp_any (rst s) [46] w
  rw [hp] at c28
  have hdl := dgs_le s
  rw [hT] at c28
  have hTl : T.length ≤ s.length := by rw [← hT]; exact Nat.le_trans (trimPre_le _ _) (rst_le _)
  have hFl := dgs_le T
  have c27b := fun w => ldig_any T w (by omega)
  have c29 := fun w => exponent_any (rst T) w (by have := rst_le T; omega)
  have hx := exI_bd (rst T)
  have c30 := fun w => signif_any (dgs s ++ dgs T) w (by rw [List.length_append]; omega)
  have hap := B_app (dgs s) (dgs T)
  unfold ptB PV clampE
  generalize bar (dgs s ++ dgs T) = D at *
  clear hT hp
  generalize rst s = R at *
  generalize exI (rst T) = E at *
  generalize exB (rst T) = z at *
  generalize rst T = R2 at *
  generalize dgs T = F at *
  have hszF := B_size F
  have hF9 : (B F).size < 10001 := by rw [hszF]; omega
  cases z
  · rw [Bool.false_and]
    clear c30 hap
    generalize dgs s = X at *
    simp only [Bool.false_eq_true, if_false]
    go_enter Tryz.func43, Tryz.ntmps43
    go_wp2_with (first | (go_at_call 78; refine (c27 _).mono ?_; rintro x w1 ⟨rfl, hb1⟩; clear c27; obtain ⟨hc1, hf1⟩ := gbcell hb1; have hz1_0 : w.heap.size < w1.heap.size := glt_below hb1 ltg; have hl1_0 := Nat.le_of_lt hz1_0; have hA1 := gbnext (w0 := w) bgo hb1; have hs1 := hA1.size; clear hb1) | (go_at_call 79; refine (c28 _).mono ?_; rintro x w2 ⟨rfl, rfl⟩))
    go_wp2_with (first | (go_at_call 78; refine (c27b _).mono ?_; rintro x w5 ⟨rfl, hb5⟩; obtain ⟨hc5, hf5⟩ := gbcell hb5; have hz5_0 : w.heap.size < w5.heap.size := glt_below hb5 ltg; have hl5_0 := Nat.le_of_lt hz5_0; have hA5 := gbnext (w0 := w) bgo hb5; have hs5 := hA5.size; clear hb5) | (go_at_call 80; refine (c29 _).mono ?_; rintro x w3 ⟨rfl, hb3⟩; obtain ⟨hc3, hf3⟩ := gbcell hb3; have hz3_0 : w.heap.size < w3.heap.size := glt_below hb3 ltg; have hl3_0 := Nat.le_of_lt hz3_0; have hA3 := gbnext (w0 := w) bgo hb3; have hs3 := hA3.size; clear hb3) | (go_at_call 81; refine (c30 _).mono ?_; rintro x w4 ⟨rfl, hb4⟩; obtain ⟨hc4, hf4⟩ := gbcell hb4; have hz4_0 : w.heap.size < w4.heap.size := glt_below hb4 ltg; have hl4_0 := Nat.le_of_lt hz4_0; have hA4 := gbnext (w0 := w) bgo hb4; have hs4 := hA4.size; clear hb4))
    exact bodyPost_ret (v := .tuple #[.agg #[.int .i64 0, .bool false, .bool false, .string ⟨#[]⟩, .int .i64 0], .bool false]) (by simp only [results, Tryz.results43]; go_simp) rfl ⟨rfl, bgo⟩
  · rw [Bool.true_and]
    generalize dgs s = X at *
    cases X with
    | nil =>
      cases F with
      | nil =>
        clear c30 hap
        simp only [List.isEmpty_nil, Bool.true_and, Bool.not_true, Bool.false_eq_true, if_false]
        go_enter Tryz.func43, Tryz.ntmps43
        go_wp2_with (first | (go_at_call 78; refine (c27 _).mono ?_; rintro x w1 ⟨rfl, hb1⟩; clear c27; obtain ⟨hc1, hf1⟩ := gbcell hb1; have hz1_0 : w.heap.size < w1.heap.size := glt_below hb1 ltg; have hl1_0 := Nat.le_of_lt hz1_0; have hA1 := gbnext (w0 := w) bgo hb1; have hs1 := hA1.size; clear hb1) | (go_at_call 79; refine (c28 _).mono ?_; rintro x w2 ⟨rfl, rfl⟩))
        go_wp2_with (first | (go_at_call 78; refine (c27b _).mono ?_; rintro x w5 ⟨rfl, hb5⟩; obtain ⟨hc5, hf5⟩ := gbcell hb5; have hz5_0 : w.heap.size < w5.heap.size := glt_below hb5 ltg; have hl5_0 := Nat.le_of_lt hz5_0; have hA5 := gbnext (w0 := w) bgo hb5; have hs5 := hA5.size; clear hb5) | (go_at_call 80; refine (c29 _).mono ?_; rintro x w3 ⟨rfl, hb3⟩; obtain ⟨hc3, hf3⟩ := gbcell hb3; have hz3_0 : w.heap.size < w3.heap.size := glt_below hb3 ltg; have hl3_0 := Nat.le_of_lt hz3_0; have hA3 := gbnext (w0 := w) bgo hb3; have hs3 := hA3.size; clear hb3) | (go_at_call 81; refine (c30 _).mono ?_; rintro x w4 ⟨rfl, hb4⟩; obtain ⟨hc4, hf4⟩ := gbcell hb4; have hz4_0 : w.heap.size < w4.heap.size := glt_below hb4 ltg; have hl4_0 := Nat.le_of_lt hz4_0; have hA4 := gbnext (w0 := w) bgo hb4; have hs4 := hA4.size; clear hb4))
        exact bodyPost_ret (v := .tuple #[.agg #[.int .i64 0, .bool false, .bool false, .string ⟨#[]⟩, .int .i64 0], .bool false]) (by simp only [results, Tryz.results43]; go_simp) rfl ⟨rfl, bgo⟩
      | cons f fs =>
        simp only [List.isEmpty_nil, List.isEmpty_cons, Bool.true_and, Bool.not_false, if_true]
        have hb9 : (B []).size = 0 := rfl
        have hfs : fs.length + 1 < 10001 := by rw [List.length_cons] at hFl; omega
        go_enter Tryz.func43, Tryz.ntmps43
        go_wp2_with (first | (go_at_call 78; refine (c27 _).mono ?_; rintro x w1 ⟨rfl, hb1⟩; clear c27; obtain ⟨hc1, hf1⟩ := gbcell hb1; have hz1_0 : w.heap.size < w1.heap.size := glt_below hb1 ltg; have hl1_0 := Nat.le_of_lt hz1_0; have hA1 := gbnext (w0 := w) bgo hb1; have hs1 := hA1.size; clear hb1) | (go_at_call 79; refine (c28 _).mono ?_; rintro x w2 ⟨rfl, rfl⟩))
        go_wp2_with (first | (go_at_call 78; refine (c27b _).mono ?_; rintro x w5 ⟨rfl, hb5⟩; obtain ⟨hc5, hf5⟩ := gbcell hb5; have hz5_0 : w.heap.size < w5.heap.size := glt_below hb5 ltg; have hl5_0 := Nat.le_of_lt hz5_0; have hA5 := gbnext (w0 := w) bgo hb5; have hs5 := hA5.size; clear hb5) | (go_at_call 80; refine (c29 _).mono ?_; rintro x w3 ⟨rfl, hb3⟩; obtain ⟨hc3, hf3⟩ := gbcell hb3; have hz3_0 : w.heap.size < w3.heap.size := glt_below hb3 ltg; have hl3_0 := Nat.le_of_lt hz3_0; have hA3 := gbnext (w0 := w) bgo hb3; have hs3 := hA3.size; clear hb3) | (go_at_call 81; refine (c30 _).mono ?_; rintro x w4 ⟨rfl, hb4⟩; obtain ⟨hc4, hf4⟩ := gbcell hb4; have hz4_0 : w.heap.size < w4.heap.size := glt_below hb4 ltg; have hl4_0 := Nat.le_of_lt hz4_0; have hA4 := gbnext (w0 := w) bgo hb4; have hs4 := hA4.size; clear hb4))
        exact bodyPost_ret (v := .tuple #[.agg #[.int .i64 1, .bool false, .bool false, .string (B D), .int .i64 (min (max (E - (f :: fs).length) (-1000000000)) 1000000000)], .bool true]) (by simp only [results, Tryz.results43]; go_simp) rfl ⟨rfl, bgo⟩
    | cons x xs =>
      simp only [List.isEmpty_cons, Bool.false_and, Bool.not_false, if_true]
      have hb9 : (B (x :: xs)).size < 10001 := by rw [B_size]; omega
      go_enter Tryz.func43, Tryz.ntmps43
      go_wp2_with (first | (go_at_call 78; refine (c27 _).mono ?_; rintro x w1 ⟨rfl, hb1⟩; clear c27; obtain ⟨hc1, hf1⟩ := gbcell hb1; have hz1_0 : w.heap.size < w1.heap.size := glt_below hb1 ltg; have hl1_0 := Nat.le_of_lt hz1_0; have hA1 := gbnext (w0 := w) bgo hb1; have hs1 := hA1.size; clear hb1) | (go_at_call 79; refine (c28 _).mono ?_; rintro x w2 ⟨rfl, rfl⟩))
      go_wp2_with (first | (go_at_call 78; refine (c27b _).mono ?_; rintro x w5 ⟨rfl, hb5⟩; obtain ⟨hc5, hf5⟩ := gbcell hb5; have hz5_0 : w.heap.size < w5.heap.size := glt_below hb5 ltg; have hl5_0 := Nat.le_of_lt hz5_0; have hA5 := gbnext (w0 := w) bgo hb5; have hs5 := hA5.size; clear hb5) | (go_at_call 80; refine (c29 _).mono ?_; rintro x w3 ⟨rfl, hb3⟩; obtain ⟨hc3, hf3⟩ := gbcell hb3; have hz3_0 : w.heap.size < w3.heap.size := glt_below hb3 ltg; have hl3_0 := Nat.le_of_lt hz3_0; have hA3 := gbnext (w0 := w) bgo hb3; have hs3 := hA3.size; clear hb3) | (go_at_call 81; refine (c30 _).mono ?_; rintro x w4 ⟨rfl, hb4⟩; obtain ⟨hc4, hf4⟩ := gbcell hb4; have hz4_0 : w.heap.size < w4.heap.size := glt_below hb4 ltg; have hl4_0 := Nat.le_of_lt hz4_0; have hA4 := gbnext (w0 := w) bgo hb4; have hs4 := hA4.size; clear hb4))
      exact bodyPost_ret (v := .tuple #[.agg #[.int .i64 1, .bool false, .bool false, .string (B D), .int .i64 (min (max (E - F.length) (-1000000000)) 1000000000)], .bool true]) (by simp only [results, Tryz.results43]; go_simp) rfl ⟨rfl, bgo⟩
theorem fin_eq (s : List UInt8) (w : World) (hs : s.length < 10001) :
    Calls Tryz.prog 43 #[.string (B s)] w fun e w' => e = .returned (.tuple #[if finB s then PV 1 false false (finD s) (finE s) else PV 0 false false [] 0, .bool (finB s)]) ∧ Below w.heap.size w w' := by
  by_cases hp : Lib.hasPrefix (rst s) [46] = true
  · have c := finite_pt s _ w hs hp rfl
    have e1 : finB s = ptB (dgs s) (Lib.trimPrefix (rst s) [46]) := by unfold finB ptB frac behind; rw [if_pos hp, if_pos hp]
    have e2 : finD s = bar (dgs s ++ dgs (Lib.trimPrefix (rst s) [46])) := by unfold finD frac; rw [if_pos hp]
    have e3 : finE s = clampE (exI (rst (Lib.trimPrefix (rst s) [46])) - (dgs (Lib.trimPrefix (rst s) [46])).length) := by unfold finE frac behind; rw [if_pos hp, if_pos hp]
    rw [e1, e2, e3]; exact c
  · have hp' : Lib.hasPrefix (rst s) [46] = false := by simpa using hp
    have c := finite_np s w hs hp'
    have e1 : finB s = npB s := by unfold finB npB frac behind; rw [if_neg hp, if_neg hp]; simp
    have e2 : finD s = bar (dgs s) := by unfold finD frac; rw [if_neg hp, List.append_nil]
    have e3 : finE s = clampE (exI (rst s)) := by unfold finE frac behind; rw [if_neg hp, if_neg hp]; simp
    rw [e1, e2, e3]; exact c
end
section
/-- a payload's digits, and whether it is one -/
def paD (l : List UInt8) : List UInt8 := if Lib.hasPrefix l [40] then dgs (Lib.trimPrefix l [40]) else []
def paB (l : List UInt8) : Bool := l.isEmpty || (Lib.hasPrefix l [40] && (!(dgs (Lib.trimPrefix l [40])).isEmpty && (rst (Lib.trimPrefix l [40]) == [41])))
set_option maxHeartbeats 2000000 in
theorem payload_any (l : List UInt8) (w : World) (hs : l.length < 10001) :
    Calls Tryz.prog 83 #[.string (B l)] w fun e w' => e = .returned (.tuple #[.string (B (paD l)), .bool (paB l)]) ∧ Below w.heap.size w w' := by
  have htl := B_toList
  cases l with
  | nil =>
    go_enter Tryz.func83, Tryz.ntmps83
    go_wp2
    go_ret2
    exact ⟨rfl, Below.refl _ _⟩
  | cons c r =>
    have c28 : ∀ w, Calls Tryz.prog 79 #[.string (B (c :: r)), .string ⟨#[40]⟩] w fun e w' => e = .returned (.tuple #[.string (B (Lib.trimPrefix (c :: r) [40])), .bool (Lib.hasPrefix (c :: r) [40])]) ∧ w' = w := fun w => cutp_any (c :: r) [40] w
    have hTl := trimPre_le (c :: r) [40]
    have c27 := fun w => ldig_any (Lib.trimPrefix (c :: r) [40]) w (by omega)
    unfold paD paB
    generalize Lib.trimPrefix (c :: r) [40] = T at *
    generalize Lib.hasPrefix (c :: r) [40] = z at *
    simp only [List.isEmpty_cons, Bool.false_or]
    cases z
    · simp only [Bool.false_eq_true, if_false, Bool.false_and]
      go_enter Tryz.func83, Tryz.ntmps83
      go_wp2_with (go_at_call 79; refine (c28 _).mono ?_; rintro x w2 ⟨rfl, rfl⟩)
      go_ret2
      exact ⟨rfl, Below.refl _ _⟩
    · simp only [if_true, Bool.true_and]
      generalize dgs T = D at *
      generalize rst T = R at *
      cases D with
      | nil =>
        simp only [List.isEmpty_nil, Bool.not_true, Bool.false_and]
        go_enter Tryz.func83, Tryz.ntmps83
        go_wp2_with (first | (go_at_call 79; refine (c28 _).mono ?_; rintro x w2 ⟨rfl, rfl⟩) | (go_at_call 78; refine (c27 _).mono ?_; rintro x w3 ⟨rfl, hb3⟩))
        go_ret2
        exact ⟨rfl, hb3⟩
      | cons d ds =>
        simp only [List.isEmpty_cons, Bool.not_false, Bool.true_and]
        go_enter Tryz.func83, Tryz.ntmps83
        go_wp2_with (first | (go_at_call 79; refine (c28 _).mono ?_; rintro x w2 ⟨rfl, rfl⟩) | (go_at_call 78; refine (c27 _).mono ?_; rintro x w3 ⟨rfl, hb3⟩))
        go_ret2
        exact ⟨rfl, hb3⟩
/-- a word -/
def infB (x : List UInt8) : Bool := x == [105, 110, 102] || x == [105, 110, 102, 105, 110, 105, 116, 121]
def nanR (x : List UInt8) : List UInt8 := Lib.trimPrefix (Lib.trimPrefix x [115]) [110, 97, 110]
def nanB (x : List UInt8) : Bool := Lib.hasPrefix (Lib.trimPrefix x [115]) [110, 97, 110] && paB (nanR x)
def woB (s : List UInt8) : Bool := infB (sml s) || nanB (sml s)
def woV (s : List UInt8) : Value := if infB (sml s) then PV 2 false false [] 0 else if nanB (sml s) then PV 3 false (Lib.hasPrefix (sml s) [115]) (bar (paD (nanR (sml s)))) 0 else PV 0 false false [] 0
set_option maxHeartbeats 2000000 in
theorem gword_any (s : List UInt8) (w : World) (hs : s.length < 10001) :
    Calls Tryz.prog 44 #[.string (B s)] w fun e w' => e = .returned (.tuple #[woV s, .bool (woB s)]) ∧ Below w.heap.size w w' := by
  have htl := B_toList
  have c31 := fun w => gsmall_any s w hs
  unfold woV woB PV
  have hxl := sml_len s
  generalize sml s = x at *
  have HI : Hid (infB x = (x == [105, 110, 102] || x == [105, 110, 102, 105, 110, 105, 116, 121])) := rfl
  by_cases h1 : x = [105, 110, 102]
  · have hi : infB x = true := by rw [h1]; rfl
    rw [hi]
    subst h1
    simp only [if_true, Bool.true_or]
    go_enter Tryz.func44, Tryz.ntmps44
    go_wp2_with (first | (go_at_call 82; refine (c31 _).mono ?_; rintro x w1 ⟨rfl, hb1⟩; obtain ⟨hc1, hf1⟩ := gbcell hb1; have hz1_0 : w.heap.size < w1.heap.size := glt_below hb1 ltg; have hl1_0 := Nat.le_of_lt hz1_0; have hA1 := gbnext (w0 := w) bgo hb1; have hs1 := hA1.size; clear hb1))
    exact bodyPost_ret (v := .tuple #[.agg #[.int .i64 2, .bool false, .bool false, .string ⟨#[]⟩, .int .i64 0], .bool true]) (by simp only [results, Tryz.results44]; go_simp) rfl ⟨rfl, bgo⟩
  · by_cases h2 : x = [105, 110, 102, 105, 110, 105, 116, 121]
    · have hi : infB x = true := by rw [h2]; rfl
      rw [hi]
      subst h2
      simp only [if_true, Bool.true_or]
      go_enter Tryz.func44, Tryz.ntmps44
      go_wp2_with (first | (go_at_call 82; refine (c31 _).mono ?_; rintro x w1 ⟨rfl, hb1⟩; obtain ⟨hc1, hf1⟩ := gbcell hb1; have hz1_0 : w.heap.size < w1.heap.size := glt_below hb1 ltg; have hl1_0 := Nat.le_of_lt hz1_0; have hA1 := gbnext (w0 := w) bgo hb1; have hs1 := hA1.size; clear hb1))
      exact bodyPost_ret (v := .tuple #[.agg #[.int .i64 2, .bool false, .bool false, .string ⟨#[]⟩, .int .i64 0], .bool true]) (by simp only [results, Tryz.results44]; go_simp) rfl ⟨rfl, bgo⟩
    · have hi : infB x = false := by unfold infB; rw [beq_eq_false_iff_ne.2 h1, beq_eq_false_iff_ne.2 h2]; rfl
      rw [hi]
      have b1 : (x == [105, 110, 102]) = false := beq_eq_false_iff_ne.2 h1
      have b2 : (x == [105, 110, 102, 105, 110, 105, 116, 121]) = false := beq_eq_false_iff_ne.2 h2
      simp only [Bool.false_eq_true, if_false, Bool.false_or]
      have c28 : ∀ w, Calls Tryz.prog 79 #[.string (B x), .string ⟨#[115]⟩] w fun e w' => e = .returned (.tuple #[.string (B (Lib.trimPrefix x [115])), .bool (Lib.hasPrefix x [115])]) ∧ w' = w := fun w => cutp_any x [115] w
      have hl1 := trimPre_le x [115]
      have c28n : ∀ w, Calls Tryz.prog 79 #[.string (B (Lib.trimPrefix x [115])), .string ⟨#[110, 97, 110]⟩] w fun e w' => e = .returned (.tuple #[.string (B (nanR x)), .bool (Lib.hasPrefix (Lib.trimPrefix x [115]) [110, 97, 110])]) ∧ w' = w := fun w => cutp_any (Lib.trimPrefix x [115]) [110, 97, 110] w
      have hl2 := trimPre_le (Lib.trimPrefix x [115]) [110, 97, 110]
      change (nanR x).length ≤ _ at hl2
      unfold nanB
      generalize Lib.hasPrefix (Lib.trimPrefix x [115]) [110, 97, 110] = z at *
      generalize Lib.hasPrefix x [115] = g at *
      generalize Lib.trimPrefix x [115] = T at *
      have c32 := fun w => payload_any (nanR x) w (by omega)
      generalize nanR x = N at *
      have hpl : (paD N).length ≤ N.length := by
        unfold paD; split
        · exact Nat.le_trans (dgs_le _) (trimPre_le _ _)
        · simp
      have c30 := fun w => signif_any (paD N) w (by omega)
      generalize paD N = P at *
      generalize paB N = y at *
      cases z
      · simp only [Bool.false_and, Bool.false_eq_true, if_false]
        go_enter Tryz.func44, Tryz.ntmps44
        go_wp2_with (first | (go_at_call 82; refine (c31 _).mono ?_; rintro x w1 ⟨rfl, hb1⟩; obtain ⟨hc1, hf1⟩ := gbcell hb1; have hz1_0 : w.heap.size < w1.heap.size := glt_below hb1 ltg; have hl1_0 := Nat.le_of_lt hz1_0; have hA1 := gbnext (w0 := w) bgo hb1; have hs1 := hA1.size; clear hb1) | (go_at_call 79; refine (c28 _).mono ?_; rintro x w2 ⟨rfl, rfl⟩; clear c28))
        go_wp2_with (first | (go_at_call 79; refine (c28n _).mono ?_; rintro x w2 ⟨rfl, rfl⟩; clear c28n))
        exact bodyPost_ret (v := .tuple #[.agg #[.int .i64 0, .bool false, .bool false, .string ⟨#[]⟩, .int .i64 0], .bool false]) (by simp only [results, Tryz.results44]; go_simp) rfl ⟨rfl, bgo⟩
      · cases y
        · simp only [Bool.true_and, Bool.false_eq_true, if_false]
          go_enter Tryz.func44, Tryz.ntmps44
          go_wp2_with (first | (go_at_call 82; refine (c31 _).mono ?_; rintro x w1 ⟨rfl, hb1⟩; obtain ⟨hc1, hf1⟩ := gbcell hb1; have hz1_0 : w.heap.size < w1.heap.size := glt_below hb1 ltg; have hl1_0 := Nat.le_of_lt hz1_0; have hA1 := gbnext (w0 := w) bgo hb1; have hs1 := hA1.size; clear hb1) | (go_at_call 79; refine (c28 _).mono ?_; rintro x w2 ⟨rfl, rfl⟩; clear c28))
          go_wp2_with (first | (go_at_call 79; refine (c28n _).mono ?_; rintro x w2 ⟨rfl, rfl⟩; clear c28n) | (go_at_call 83; refine (c32 _).mono ?_; rintro x w3 ⟨rfl, hb3⟩; obtain ⟨hc3, hf3⟩ := gbcell hb3; have hz3_0 : w.heap.size < w3.heap.size := glt_below hb3 ltg; have hl3_0 := Nat.le_of_lt hz3_0; have hA3 := gbnext (w0 := w) bgo hb3; have hs3 := hA3.size; clear hb3))
          exact bodyPost_ret (v := .tuple #[.agg #[.int .i64 0, .bool false, .bool false, .string ⟨#[]⟩, .int .i64 0], .bool false]) (by simp only [results, Tryz.results44]; go_simp) rfl ⟨rfl, bgo⟩
        · simp only [Bool.true_and, if_true]
          go_enter Tryz.func44, Tryz.ntmps44
          go_wp2_with (first | (go_at_call 82; refine (c31 _).mono ?_; rintro x w1 ⟨rfl, hb1⟩; obtain ⟨hc1, hf1⟩ := gbcell hb1; have hz1_0 : w.heap.size < w1.heap.size := glt_below hb1 ltg; have hl1_0 := Nat.le_of_lt hz1_0; have hA1 := gbnext (w0 := w) bgo hb1; have hs1 := hA1.size; clear hb1) | (go_at_call 79; refine (c28 _).mono ?_; rintro x w2 ⟨rfl, rfl⟩; clear c28))
          go_wp2_with (first | (go_at_call 79; refine (c28n _).mono ?_; rintro x w2 ⟨rfl, rfl⟩; clear c28n) | (go_at_call 83; refine (c32 _).mono ?_; rintro x w3 ⟨rfl, hb3⟩; obtain ⟨hc3, hf3⟩ := gbcell hb3; have hz3_0 : w.heap.size < w3.heap.size := glt_below hb3 ltg; have hl3_0 := Nat.le_of_lt hz3_0; have hA3 := gbnext (w0 := w) bgo hb3; have hs3 := hA3.size; clear hb3) | (go_at_call 81; refine (c30 _).mono ?_; rintro x w4 ⟨rfl, hb4⟩; obtain ⟨hc4, hf4⟩ := gbcell hb4; have hz4_0 : w.heap.size < w4.heap.size := glt_below hb4 ltg; have hl4_0 := Nat.le_of_lt hz4_0; have hA4 := gbnext (w0 := w) bgo hb4; have hs4 := hA4.size; clear hb4))
          exact bodyPost_ret (v := .tuple #[.agg #[.int .i64 3, .bool false, .bool g, .string (B (bar P)), .int .i64 0], .bool true]) (by simp only [results, Tryz.results44]; go_simp) rfl ⟨rfl, bgo⟩
end
end Go.Proofs.YtpemdcnneabbfaaGreatDoor
