/-
  Texts that the proof leans on, joined: Gf, Gg, Gh, Gi.
-/
import Derived.Test.YtoobncgmcnmgjaaGreatDoorL23
import Derived.Test.YtoobncgmcnmgjaaGreatDoorL1
import Derived.RegionTactic
import Derived.ChangeAlike
import Derived.BigRegion
import Derived.Laws.Strings2
set_option linter.unusedVariables false
set_option linter.unusedSimpArgs false
set_option maxRecDepth 20000
set_option linter.unusedSectionVars false
namespace Go.Proofs.YtoobncgmcnmgjaaGreatDoor
open Go.RowKit

theorem gtrim_any (l : List UInt8) (w : World) : Calls Tryz.prog 139 #[.string (B l), .string ⟨#[48]⟩] w fun e w' => e = .returned (.string (B (bar l))) ∧ w' = w :=
  Tryz.strings_TrimLeft_one (B l) 48 (by decide) w
set_option maxHeartbeats 400000 in
theorem clone_any (l : List UInt8) (w : World) (hs : l.length < 4294967296) : Calls Tryz.prog 138 #[.string (B l)] w fun e w' => e = .returned (.string (B l)) ∧ Below w.heap.size w w' := by
  have c := fun w => Tryz.stringslite_Clone (B l) w (by rw [B_size]; omega)
  go_enter Tryz.func138, Tryz.ntmps138
  go_wp2_with (go_at_call 167; refine (c _).mono ?_; rintro x w1 ⟨rfl, hb1⟩)
  go_ret
  exact ⟨rfl, hb1⟩
theorem cutp_any (l p : List UInt8) (w : World) : Calls Tryz.prog 106 #[.string (B l), .string ⟨p.toArray⟩] w fun e w' => e = .returned (.tuple #[.string (B (Lib.trimPrefix l p)), .bool (Lib.hasPrefix l p)]) ∧ w' = w :=
  Tryz.strings_CutPrefix (B l) (B p) w
set_option maxHeartbeats 400000 in
theorem signif_any (l : List UInt8) (w : World) (hs : l.length < 4294967296) : Calls Tryz.prog 108 #[.string (B l)] w fun e w' => e = .returned (.string (B (bar l))) ∧ Below w.heap.size w w' := by
  have c := fun w => gtrim_any l w
  have c2 := fun w => clone_any (bar l) w (by have := bar_le l; omega)
  go_enter Tryz.func108, Tryz.ntmps108
  go_wp2_with (first | (go_at_call 139; refine (c _).mono ?_; rintro x w1 ⟨rfl, rfl⟩) | (go_at_call 138; refine (c2 _).mono ?_; rintro x w2 ⟨rfl, hb2⟩))
  go_ret
  exact ⟨rfl, hb2⟩
/-- parts, as a value -/
def PV (c : Int) (s g : Bool) (d : List UInt8) (e : Int) : Value := .agg #[.int .i64 c, .bool s, .bool g, .string (B d), .int .i64 e]
def clampE (e : Int) : Int := min (max e (-1000000000)) 1000000000
/-- behind the point, and behind that -/
def frac (s : List UInt8) : List UInt8 := if Lib.hasPrefix (rst s) [46] then dgs (Lib.trimPrefix (rst s) [46]) else []
def behind (s : List UInt8) : List UInt8 := if Lib.hasPrefix (rst s) [46] then rst (Lib.trimPrefix (rst s) [46]) else rst s
def finB (s : List UInt8) : Bool := exB (behind s) && !((dgs s).isEmpty && (frac s).isEmpty)
def finD (s : List UInt8) : List UInt8 := bar (dgs s ++ frac s)
def finE (s : List UInt8) : Int := clampE (exI (behind s) - (frac s).length)
theorem trimPre_le (l p : List UInt8) : (Lib.trimPrefix l p).length ≤ l.length := by unfold Lib.trimPrefix; split <;> simp
theorem exS_bd (r : List UInt8) (h : isd (sgR r) = true) : -2000000000 ≤ exS r ∧ exS r ≤ 2000000000 := by
  have := vc_bd (isd_all h)
  unfold exS; split <;> omega
theorem exI_bd (l : List UInt8) : -2000000000 ≤ exI l ∧ exI l ≤ 2000000000 := by
  cases l with
  | nil => show -2000000000 ≤ (0 : Int) ∧ (0 : Int) ≤ 2000000000; omega
  | cons c r =>
    show -2000000000 ≤ (if exB (c :: r) then exS r else 0) ∧ (if exB (c :: r) then exS r else 0) ≤ 2000000000
    by_cases h : exB (c :: r) = true
    · rw [if_pos h]
      have : isd (sgR r) = true := by
        have h2 : (decide _ && isd (sgR r)) = true := h
        rw [Bool.and_eq_true] at h2; exact h2.2
      exact exS_bd r this
    · rw [if_neg h]; omega
/-- without a point -/
def npB (s : List UInt8) : Bool := exB (rst s) && !(dgs s).isEmpty
set_option maxHeartbeats 2000000 in
theorem finite_np (s : List UInt8) (w : World) (hs : s.length < 10001) (hp : Lib.hasPrefix (rst s) [46] = false) :
    Calls Tryz.prog 77 #[.string (B s)] w fun e w' => e = .returned (.tuple #[if npB s then PV 1 false false (bar (dgs s)) (clampE (exI (rst s))) else PV 0 false false [] 0, .bool (npB s)]) ∧ Below w.heap.size w w' := by
  have htl := B_toList
  have c27 := fun w => ldig_any s w (by omega)
  have c28 : ∀ w, Calls Tryz.prog 106 #[.string (B (rst s)), .string ⟨#[46]⟩] w fun e w' => e = .returned (.tuple #[.string (B (Lib.trimPrefix (rst s) [46])), .bool (Lib.hasPrefix (rst s) [46])]) ∧ w' = w := fun w => cutp_any (rst s) [46] w
  rw [hp] at c28
  have hdl := dgs_le s
  have c29 := fun w => exponent_any (rst s) w (by have := rst_le s; omega)
  have hx := exI_bd (rst s)
  have c30 := fun w => signif_any (dgs s) w (by omega)
  unfold npB PV clampE
  generalize bar (dgs s) = D at *
  generalize Lib.trimPrefix (rst s) [46] = T at *
  generalize rst s = R at *
  generalize exI R = E at *
  generalize exB R = z at *
  clear hp
  cases z
  · rw [Bool.false_and]
    clear c30
    generalize dgs s = X at *
    simp only [Bool.false_eq_true, if_false]
    go_enter Tryz.func77, Tryz.ntmps77
    go_wp2_with (first | (go_at_call 105; refine (c27 _).mono ?_; rintro x w1 ⟨rfl, hb1⟩; obtain ⟨hc1, hf1⟩ := gbcell hb1; have hz1_0 : w.heap.size < w1.heap.size := glt_below hb1 ltg; have hl1_0 := Nat.le_of_lt hz1_0; have hA1 := gbnext (w0 := w) bgo hb1; have hs1 := hA1.size; clear hb1) | (go_at_call 106; refine (c28 _).mono ?_; rintro x w2 ⟨rfl, rfl⟩) | (go_at_call 107; refine (c29 _).mono ?_; rintro x w3 ⟨rfl, hb3⟩; obtain ⟨hc3, hf3⟩ := gbcell hb3; have hz3_0 : w.heap.size < w3.heap.size := glt_below hb3 ltg; have hl3_0 := Nat.le_of_lt hz3_0; have hA3 := gbnext (w0 := w) bgo hb3; have hs3 := hA3.size; clear hb3) | (go_at_call 108; refine (c30 _).mono ?_; rintro x w4 ⟨rfl, hb4⟩; obtain ⟨hc4, hf4⟩ := gbcell hb4; have hz4_0 : w.heap.size < w4.heap.size := glt_below hb4 ltg; have hl4_0 := Nat.le_of_lt hz4_0; have hA4 := gbnext (w0 := w) bgo hb4; have hs4 := hA4.size; clear hb4))
    exact bodyPost_ret (v := .tuple #[.agg #[.int .i64 0, .bool false, .bool false, .string ⟨#[]⟩, .int .i64 0], .bool false]) (by simp only [results, Tryz.results77]; go_simp) rfl ⟨rfl, bgo⟩
  · rw [Bool.true_and]
    generalize dgs s = X at *
    cases X with
    | nil =>
      clear c30
      simp only [List.isEmpty_nil, Bool.not_true, Bool.false_eq_true, if_false]
      go_enter Tryz.func77, Tryz.ntmps77
      go_wp2_with (first | (go_at_call 105; refine (c27 _).mono ?_; rintro x w1 ⟨rfl, hb1⟩; obtain ⟨hc1, hf1⟩ := gbcell hb1; have hz1_0 : w.heap.size < w1.heap.size := glt_below hb1 ltg; have hl1_0 := Nat.le_of_lt hz1_0; have hA1 := gbnext (w0 := w) bgo hb1; have hs1 := hA1.size; clear hb1) | (go_at_call 106; refine (c28 _).mono ?_; rintro x w2 ⟨rfl, rfl⟩) | (go_at_call 107; refine (c29 _).mono ?_; rintro x w3 ⟨rfl, hb3⟩; obtain ⟨hc3, hf3⟩ := gbcell hb3; have hz3_0 : w.heap.size < w3.heap.size := glt_below hb3 ltg; have hl3_0 := Nat.le_of_lt hz3_0; have hA3 := gbnext (w0 := w) bgo hb3; have hs3 := hA3.size; clear hb3) | (go_at_call 108; refine (c30 _).mono ?_; rintro x w4 ⟨rfl, hb4⟩; obtain ⟨hc4, hf4⟩ := gbcell hb4; have hz4_0 : w.heap.size < w4.heap.size := glt_below hb4 ltg; have hl4_0 := Nat.le_of_lt hz4_0; have hA4 := gbnext (w0 := w) bgo hb4; have hs4 := hA4.size; clear hb4))
      exact bodyPost_ret (v := .tuple #[.agg #[.int .i64 0, .bool false, .bool false, .string ⟨#[]⟩, .int .i64 0], .bool false]) (by simp only [results, Tryz.results77]; go_simp) rfl ⟨rfl, bgo⟩
    | cons x xs =>
      simp only [List.isEmpty_cons, Bool.not_false, if_true]
      have hap := B_app (x :: xs) []
      rw [List.append_nil] at hap
      have hb9 : (B (x :: xs)).size < 10001 := by rw [B_size]; omega
      have hn : B [] = ⟨#[]⟩ := rfl
      have hn0 : (⟨#[]⟩ : ByteArray).size = 0 := rfl
      rw [hn] at hap
      go_enter Tryz.func77, Tryz.ntmps77
      go_wp2_with (first | (go_at_call 105; refine (c27 _).mono ?_; rintro x w1 ⟨rfl, hb1⟩; obtain ⟨hc1, hf1⟩ := gbcell hb1; have hz1_0 : w.heap.size < w1.heap.size := glt_below hb1 ltg; have hl1_0 := Nat.le_of_lt hz1_0; have hA1 := gbnext (w0 := w) bgo hb1; have hs1 := hA1.size; clear hb1) | (go_at_call 106; refine (c28 _).mono ?_; rintro x w2 ⟨rfl, rfl⟩) | (go_at_call 107; refine (c29 _).mono ?_; rintro x w3 ⟨rfl, hb3⟩; obtain ⟨hc3, hf3⟩ := gbcell hb3; have hz3_0 : w.heap.size < w3.heap.size := glt_below hb3 ltg; have hl3_0 := Nat.le_of_lt hz3_0; have hA3 := gbnext (w0 := w) bgo hb3; have hs3 := hA3.size; clear hb3) | (go_at_call 108; refine (c30 _).mono ?_; rintro x w4 ⟨rfl, hb4⟩; obtain ⟨hc4, hf4⟩ := gbcell hb4; have hz4_0 : w.heap.size < w4.heap.size := glt_below hb4 ltg; have hl4_0 := Nat.le_of_lt hz4_0; have hA4 := gbnext (w0 := w) bgo hb4; have hs4 := hA4.size; clear hb4))
      exact bodyPost_ret (v := .tuple #[.agg #[.int .i64 1, .bool false, .bool false, .string (B D), .int .i64 (min (max E (-1000000000)) 1000000000)], .bool true]) (by simp only [results, Tryz.results77]; go_simp) rfl ⟨rfl, bgo⟩
/-- with a point -/
def ptB (X T : List UInt8) : Bool := exB (rst T) && !(X.isEmpty && (dgs T).isEmpty)
set_option maxHeartbeats 2000000 in
theorem finite_pt (s T : List UInt8) (w : World) (hs : s.length < 10001) (hp : Lib.hasPrefix (rst s) [46] = true) (hT : Lib.trimPrefix (rst s) [46] = T) :
    Calls Tryz.prog 77 #[.string (B s)] w fun e w' => e = .returned (.tuple #[if ptB (dgs s) T then PV 1 false false (bar (dgs s ++ dgs T)) (clampE (exI (rst T) - (dgs T).length)) else PV 0 false false [] 0, .bool (ptB (dgs s) T)]) ∧ Below w.heap.size w w' := by
  have htl := B_toList
  have c27 := fun w => ldig_any s w (by omega)
  have c28 : ∀ w, Calls Tryz.prog 106 #[.string (B (rst s)), .string ⟨#[46]⟩] w fun e w' => e = .returned (.tuple #[.string (B (Lib.trimPrefix (rst s) [46])), .bool (Lib.hasPrefix (rst s) [46])]) ∧ w' = w := fun w => cutp_any (rst s) [46] w
  rw [hp] at c28
  have hdl := dgs_le s
  rw [hT] at c28
  have hTl : T.length ≤ s.length := by rw [← hT]; exact Nat.le_trans (trimPre_le _ _) (rst_le _)
  have hFl := dgs_le T
  have c27b := fun w => ldig_any T w (by omega)
  have c29 := fun w => exponent_any (rst T) w (by have := rst_le T; omega)
  have hx := exI_bd (rst T)
  have c30 := fun w => signif_any (dgs s ++ dgs T) w (by rw [List.length_append]; omega)
  have hap := B_app (dgs s) (dgs T)
  unfold ptB PV clampE
  generalize bar (dgs s ++ dgs T) = D at *
  clear hT hp
  generalize rst s = R at *
  generalize exI (rst T) = E at *
  generalize exB (rst T) = z at *
  generalize rst T = R2 at *
  generalize dgs T = F at *
  have hszF := B_size F
  have hF9 : (B F).size < 10001 := by rw [hszF]; omega
  cases z
  · rw [Bool.false_and]
    clear c30 hap
    generalize dgs s = X at *
    simp only [Bool.false_eq_true, if_false]
    go_enter Tryz.func77, Tryz.ntmps77
    go_wp2_with (first | (go_at_call 105; refine (c27 _).mono ?_; rintro x w1 ⟨rfl, hb1⟩; clear c27; obtain ⟨hc1, hf1⟩ := gbcell hb1; have hz1_0 : w.heap.size < w1.heap.size := glt_below hb1 ltg; have hl1_0 := Nat.le_of_lt hz1_0; have hA1 := gbnext (w0 := w) bgo hb1; have hs1 := hA1.size; clear hb1) | (go_at_call 106; refine (c28 _).mono ?_; rintro x w2 ⟨rfl, rfl⟩))
    go_wp2_with (first | (go_at_call 105; refine (c27b _).mono ?_; rintro x w5 ⟨rfl, hb5⟩; obtain ⟨hc5, hf5⟩ := gbcell hb5; have hz5_0 : w.heap.size < w5.heap.size := glt_below hb5 ltg; have hl5_0 := Nat.le_of_lt hz5_0; have hA5 := gbnext (w0 := w) bgo hb5; have hs5 := hA5.size; clear hb5) | (go_at_call 107; refine (c29 _).mono ?_; rintro x w3 ⟨rfl, hb3⟩; obtain ⟨hc3, hf3⟩ := gbcell hb3; have hz3_0 : w.heap.size < w3.heap.size := glt_below hb3 ltg; have hl3_0 := Nat.le_of_lt hz3_0; have hA3 := gbnext (w0 := w) bgo hb3; have hs3 := hA3.size; clear hb3) | (go_at_call 108; refine (c30 _).mono ?_; rintro x w4 ⟨rfl, hb4⟩; obtain ⟨hc4, hf4⟩ := gbcell hb4; have hz4_0 : w.heap.size < w4.heap.size := glt_below hb4 ltg; have hl4_0 := Nat.le_of_lt hz4_0; have hA4 := gbnext (w0 := w) bgo hb4; have hs4 := hA4.size; clear hb4))
    exact bodyPost_ret (v := .tuple #[.agg #[.int .i64 0, .bool false, .bool false, .string ⟨#[]⟩, .int .i64 0], .bool false]) (by simp only [results, Tryz.results77]; go_simp) rfl ⟨rfl, bgo⟩
  · rw [Bool.true_and]
    generalize dgs s = X at *
    cases X with
    | nil =>
      cases F with
      | nil =>
        clear c30 hap
        simp only [List.isEmpty_nil, Bool.true_and, Bool.not_true, Bool.false_eq_true, if_false]
        go_enter Tryz.func77, Tryz.ntmps77
        go_wp2_with (first | (go_at_call 105; refine (c27 _).mono ?_; rintro x w1 ⟨rfl, hb1⟩; clear c27; obtain ⟨hc1, hf1⟩ := gbcell hb1; have hz1_0 : w.heap.size < w1.heap.size := glt_below hb1 ltg; have hl1_0 := Nat.le_of_lt hz1_0; have hA1 := gbnext (w0 := w) bgo hb1; have hs1 := hA1.size; clear hb1) | (go_at_call 106; refine (c28 _).mono ?_; rintro x w2 ⟨rfl, rfl⟩))
        go_wp2_with (first | (go_at_call 105; refine (c27b _).mono ?_; rintro x w5 ⟨rfl, hb5⟩; obtain ⟨hc5, hf5⟩ := gbcell hb5; have hz5_0 : w.heap.size < w5.heap.size := glt_below hb5 ltg; have hl5_0 := Nat.le_of_lt hz5_0; have hA5 := gbnext (w0 := w) bgo hb5; have hs5 := hA5.size; clear hb5) | (go_at_call 107; refine (c29 _).mono ?_; rintro x w3 ⟨rfl, hb3⟩; obtain ⟨hc3, hf3⟩ := gbcell hb3; have hz3_0 : w.heap.size < w3.heap.size := glt_below hb3 ltg; have hl3_0 := Nat.le_of_lt hz3_0; have hA3 := gbnext (w0 := w) bgo hb3; have hs3 := hA3.size; clear hb3) | (go_at_call 108; refine (c30 _).mono ?_; rintro x w4 ⟨rfl, hb4⟩; obtain ⟨hc4, hf4⟩ := gbcell hb4; have hz4_0 : w.heap.size < w4.heap.size := glt_below hb4 ltg; have hl4_0 := Nat.le_of_lt hz4_0; have hA4 := gbnext (w0 := w) bgo hb4; have hs4 := hA4.size; clear hb4))
        exact bodyPost_ret (v := .tuple #[.agg #[.int .i64 0, .bool false, .bool false, .string ⟨#[]⟩, .int .i64 0], .bool false]) (by simp only [results, Tryz.results77]; go_simp) rfl ⟨rfl, bgo⟩
      | cons f fs =>
        simp only [List.isEmpty_nil, List.isEmpty_cons, Bool.true_and, Bool.not_false, if_true]
        have hb9 : (B []).size = 0 := rfl
        have hfs : fs.length + 1 < 10001 := by rw [List.length_cons] at hFl; omega
        go_enter Tryz.func77, Tryz.ntmps77
        go_wp2_with (first | (go_at_call 105; refine (c27 _).mono ?_; rintro x w1 ⟨rfl, hb1⟩; clear c27; obtain ⟨hc1, hf1⟩ := gbcell hb1; have hz1_0 : w.heap.size < w1.heap.size := glt_below hb1 ltg; have hl1_0 := Nat.le_of_lt hz1_0; have hA1 := gbnext (w0 := w) bgo hb1; have hs1 := hA1.size; clear hb1) | (go_at_call 106; refine (c28 _).mono ?_; rintro x w2 ⟨rfl, rfl⟩))
        go_wp2_with (first | (go_at_call 105; refine (c27b _).mono ?_; rintro x w5 ⟨rfl, hb5⟩; obtain ⟨hc5, hf5⟩ := gbcell hb5; have hz5_0 : w.heap.size < w5.heap.size := glt_below hb5 ltg; have hl5_0 := Nat.le_of_lt hz5_0; have hA5 := gbnext (w0 := w) bgo hb5; have hs5 := hA5.size; clear hb5) | (go_at_call 107; refine (c29 _).mono ?_; rintro x w3 ⟨rfl, hb3⟩; obtain ⟨hc3, hf3⟩ := gbcell hb3; have hz3_0 : w.heap.size < w3.heap.size := glt_below hb3 ltg; have hl3_0 := Nat.le_of_lt hz3_0; have hA3 := gbnext (w0 := w) bgo hb3; have hs3 := hA3.size; clear hb3) | (go_at_call 108; refine (c30 _).mono ?_; rintro x w4 ⟨rfl, hb4⟩; obtain ⟨hc4, hf4⟩ := gbcell hb4; have hz4_0 : w.heap.size < w4.heap.size := glt_below hb4 ltg; have hl4_0 := Nat.le_of_lt hz4_0; have hA4 := gbnext (w0 := w) bgo hb4; have hs4 := hA4.size; clear hb4))
        exact bodyPost_ret (v := .tuple #[.agg #[.int .i64 1, .bool false, .bool false, .string (B D), .int .i64 (min (max (E - (f :: fs).length) (-1000000000)) 1000000000)], .bool true]) (by simp only [results, Tryz.results77]; go_simp) rfl ⟨rfl, bgo⟩
    | cons x xs =>
      simp only [List.isEmpty_cons, Bool.false_and, Bool.not_false, if_true]
      have hb9 : (B (x :: xs)).size < 10001 := by rw [B_size]; omega
      go_enter Tryz.func77, Tryz.ntmps77
      go_wp2_with (first | (go_at_call 105; refine (c27 _).mono ?_; rintro x w1 ⟨rfl, hb1⟩; clear c27; obtain ⟨hc1, hf1⟩ := gbcell hb1; have hz1_0 : w.heap.size < w1.heap.size := glt_below hb1 ltg; have hl1_0 := Nat.le_of_lt hz1_0; have hA1 := gbnext (w0 := w) bgo hb1; have hs1 := hA1.size; clear hb1) | (go_at_call 106; refine (c28 _).mono ?_; rintro x w2 ⟨rfl, rfl⟩))
      go_wp2_with (first | (go_at_call 105; refine (c27b _).mono ?_; rintro x w5 ⟨rfl, hb5⟩; obtain ⟨hc5, hf5⟩ := gbcell hb5; have hz5_0 : w.heap.size < w5.heap.size := glt_below hb5 ltg; have hl5_0 := Nat.le_of_lt hz5_0; have hA5 := gbnext (w0 := w) bgo hb5; have hs5 := hA5.size; clear hb5) | (go_at_call 107; refine (c29 _).mono ?_; rintro x w3 ⟨rfl, hb3⟩; obtain ⟨hc3, hf3⟩ := gbcell hb3; have hz3_0 : w.heap.size < w3.heap.size := glt_below hb3 ltg; have hl3_0 := Nat.le_of_lt hz3_0; have hA3 := gbnext (w0 := w) bgo hb3; have hs3 := hA3.size; clear hb3) | (go_at_call 108; refine (c30 _).mono ?_; rintro x w4 ⟨rfl, hb4⟩; obtain ⟨hc4, hf4⟩ := gbcell hb4; have hz4_0 : w.heap.size < w4.heap.size := glt_below hb4 ltg; have hl4_0 := Nat.le_of_lt hz4_0; have hA4 := gbnext (w0 := w) bgo hb4; have hs4 := hA4.size; clear hb4))
      exact bodyPost_ret (v := .tuple #[.agg #[.int .i64 1, .bool false, .bool false, .string (B D), .int .i64 (min (max (E - F.length) (-1000000000)) 1000000000)], .bool true]) (by simp only [results, Tryz.results77]; go_simp) rfl ⟨rfl, bgo⟩
theorem fin_eq (s : List UInt8) (w : World) (hs : s.length < 10001) :
    Calls Tryz.prog 77 #[.string (B s)] w fun e w' => e = .returned (.tuple #[if finB s then PV 1 false false (finD s) (finE s) else PV 0 false false [] 0, .bool (finB s)]) ∧ Below w.heap.size w w' := by
  by_cases hp : Lib.hasPrefix (rst s) [46] = true
  · have c := finite_pt s _ w hs hp rfl
    have e1 : finB s = ptB (dgs s) (Lib.trimPrefix (rst s) [46]) := by unfold finB ptB frac behind; rw [if_pos hp, if_pos hp]
    have e2 : finD s = bar (dgs s ++ dgs (Lib.trimPrefix (rst s) [46])) := by unfold finD frac; rw [if_pos hp]
    have e3 : finE s = clampE (exI (rst (Lib.trimPrefix (rst s) [46])) - (dgs (Lib.trimPrefix (rst s) [46])).length) := by unfold finE frac behind; rw [if_pos hp, if_pos hp]
    rw [e1, e2, e3]; exact c
  · have hp' : Lib.hasPrefix (rst s) [46] = false := by simpa using hp
    have c := finite_np s w hs hp'
    have e1 : finB s = npB s := by unfold finB npB frac behind; rw [if_neg hp, if_neg hp]; simp
    have e2 : finD s = bar (dgs s) := by unfold finD frac; rw [if_neg hp, List.append_nil]
    have e3 : finE s = clampE (exI (rst s)) := by unfold finE frac behind; rw [if_neg hp, if_neg hp]; simp
    rw [e1, e2, e3]; exact c
end Go.Proofs.YtoobncgmcnmgjaaGreatDoor

namespace Go.Proofs.YtoobncgmcnmgjaaGreatDoor
open Go.RowKit

/-- a payload's digits, and whether it is one -/
def paD (l : List UInt8) : List UInt8 := if Lib.hasPrefix l [40] then dgs (Lib.trimPrefix l [40]) else []
def paB (l : List UInt8) : Bool := l.isEmpty || (Lib.hasPrefix l [40] && (!(dgs (Lib.trimPrefix l [40])).isEmpty && (rst (Lib.trimPrefix l [40]) == [41])))
set_option maxHeartbeats 2000000 in
theorem payload_any (l : List UInt8) (w : World) (hs : l.length < 10001) :
    Calls Tryz.prog 110 #[.string (B l)] w fun e w' => e = .returned (.tuple #[.string (B (paD l)), .bool (paB l)]) ∧ Below w.heap.size w w' := by
  have htl := B_toList
  cases l with
  | nil =>
    go_enter Tryz.func110, Tryz.ntmps110
    go_wp2
    go_ret2
    exact ⟨rfl, Below.refl _ _⟩
  | cons c r =>
    have c28 : ∀ w, Calls Tryz.prog 106 #[.string (B (c :: r)), .string ⟨#[40]⟩] w fun e w' => e = .returned (.tuple #[.string (B (Lib.trimPrefix (c :: r) [40])), .bool (Lib.hasPrefix (c :: r) [40])]) ∧ w' = w := fun w => cutp_any (c :: r) [40] w
    have hTl := trimPre_le (c :: r) [40]
    have c27 := fun w => ldig_any (Lib.trimPrefix (c :: r) [40]) w (by omega)
    unfold paD paB
    generalize Lib.trimPrefix (c :: r) [40] = T at *
    generalize Lib.hasPrefix (c :: r) [40] = z at *
    simp only [List.isEmpty_cons, Bool.false_or]
    cases z
    · simp only [Bool.false_eq_true, if_false, Bool.false_and]
      go_enter Tryz.func110, Tryz.ntmps110
      go_wp2_with (go_at_call 106; refine (c28 _).mono ?_; rintro x w2 ⟨rfl, rfl⟩)
      go_ret2
      exact ⟨rfl, Below.refl _ _⟩
    · simp only [if_true, Bool.true_and]
      generalize dgs T = D at *
      generalize rst T = R at *
      cases D with
      | nil =>
        simp only [List.isEmpty_nil, Bool.not_true, Bool.false_and]
        go_enter Tryz.func110, Tryz.ntmps110
        go_wp2_with (first | (go_at_call 106; refine (c28 _).mono ?_; rintro x w2 ⟨rfl, rfl⟩) | (go_at_call 105; refine (c27 _).mono ?_; rintro x w3 ⟨rfl, hb3⟩))
        go_ret2
        exact ⟨rfl, hb3⟩
      | cons d ds =>
        simp only [List.isEmpty_cons, Bool.not_false, Bool.true_and]
        go_enter Tryz.func110, Tryz.ntmps110
        go_wp2_with (first | (go_at_call 106; refine (c28 _).mono ?_; rintro x w2 ⟨rfl, rfl⟩) | (go_at_call 105; refine (c27 _).mono ?_; rintro x w3 ⟨rfl, hb3⟩))
        go_ret2
        exact ⟨rfl, hb3⟩
/-- a word -/
def infB (x : List UInt8) : Bool := x == [105, 110, 102] || x == [105, 110, 102, 105, 110, 105, 116, 121]
def nanR (x : List UInt8) : List UInt8 := Lib.trimPrefix (Lib.trimPrefix x [115]) [110, 97, 110]
def nanB (x : List UInt8) : Bool := Lib.hasPrefix (Lib.trimPrefix x [115]) [110, 97, 110] && paB (nanR x)
def woB (s : List UInt8) : Bool := infB (sml s) || nanB (sml s)
def woV (s : List UInt8) : Value := if infB (sml s) then PV 2 false false [] 0 else if nanB (sml s) then PV 3 false (Lib.hasPrefix (sml s) [115]) (bar (paD (nanR (sml s)))) 0 else PV 0 false false [] 0
set_option maxHeartbeats 2000000 in
theorem gword_any (s : List UInt8) (w : World) (hs : s.length < 10001) :
    Calls Tryz.prog 78 #[.string (B s)] w fun e w' => e = .returned (.tuple #[woV s, .bool (woB s)]) ∧ Below w.heap.size w w' := by
  have htl := B_toList
  have c31 := fun w => gsmall_any s w hs
  unfold woV woB PV
  have hxl := sml_len s
  generalize sml s = x at *
  have HI : Hid (infB x = (x == [105, 110, 102] || x == [105, 110, 102, 105, 110, 105, 116, 121])) := rfl
  by_cases h1 : x = [105, 110, 102]
  · have hi : infB x = true := by rw [h1]; rfl
    rw [hi]
    subst h1
    simp only [if_true, Bool.true_or]
    go_enter Tryz.func78, Tryz.ntmps78
    go_wp2_with (first | (go_at_call 109; refine (c31 _).mono ?_; rintro x w1 ⟨rfl, hb1⟩; obtain ⟨hc1, hf1⟩ := gbcell hb1; have hz1_0 : w.heap.size < w1.heap.size := glt_below hb1 ltg; have hl1_0 := Nat.le_of_lt hz1_0; have hA1 := gbnext (w0 := w) bgo hb1; have hs1 := hA1.size; clear hb1))
    exact bodyPost_ret (v := .tuple #[.agg #[.int .i64 2, .bool false, .bool false, .string ⟨#[]⟩, .int .i64 0], .bool true]) (by simp only [results, Tryz.results78]; go_simp) rfl ⟨rfl, bgo⟩
  · by_cases h2 : x = [105, 110, 102, 105, 110, 105, 116, 121]
    · have hi : infB x = true := by rw [h2]; rfl
      rw [hi]
      subst h2
      simp only [if_true, Bool.true_or]
      go_enter Tryz.func78, Tryz.ntmps78
      go_wp2_with (first | (go_at_call 109; refine (c31 _).mono ?_; rintro x w1 ⟨rfl, hb1⟩; obtain ⟨hc1, hf1⟩ := gbcell hb1; have hz1_0 : w.heap.size < w1.heap.size := glt_below hb1 ltg; have hl1_0 := Nat.le_of_lt hz1_0; have hA1 := gbnext (w0 := w) bgo hb1; have hs1 := hA1.size; clear hb1))
      exact bodyPost_ret (v := .tuple #[.agg #[.int .i64 2, .bool false, .bool false, .string ⟨#[]⟩, .int .i64 0], .bool true]) (by simp only [results, Tryz.results78]; go_simp) rfl ⟨rfl, bgo⟩
    · have hi : infB x = false := by unfold infB; rw [beq_eq_false_iff_ne.2 h1, beq_eq_false_iff_ne.2 h2]; rfl
      rw [hi]
      have b1 : (x == [105, 110, 102]) = false := beq_eq_false_iff_ne.2 h1
      have b2 : (x == [105, 110, 102, 105, 110, 105, 116, 121]) = false := beq_eq_false_iff_ne.2 h2
      simp only [Bool.false_eq_true, if_false, Bool.false_or]
      have c28 : ∀ w, Calls Tryz.prog 106 #[.string (B x), .string ⟨#[115]⟩] w fun e w' => e = .returned (.tuple #[.string (B (Lib.trimPrefix x [115])), .bool (Lib.hasPrefix x [115])]) ∧ w' = w := fun w => cutp_any x [115] w
      have hl1 := trimPre_le x [115]
      have c28n : ∀ w, Calls Tryz.prog 106 #[.string (B (Lib.trimPrefix x [115])), .string ⟨#[110, 97, 110]⟩] w fun e w' => e = .returned (.tuple #[.string (B (nanR x)), .bool (Lib.hasPrefix (Lib.trimPrefix x [115]) [110, 97, 110])]) ∧ w' = w := fun w => cutp_any (Lib.trimPrefix x [115]) [110, 97, 110] w
      have hl2 := trimPre_le (Lib.trimPrefix x [115]) [110, 97, 110]
      change (nanR x).length ≤ _ at hl2
      unfold nanB
      generalize Lib.hasPrefix (Lib.trimPrefix x [115]) [110, 97, 110] = z at *
      generalize Lib.hasPrefix x [115] = g at *
      generalize Lib.trimPrefix x [115] = T at *
      have c32 := fun w => payload_any (nanR x) w (by omega)
      generalize nanR x = N at *
      have hpl : (paD N).length ≤ N.length := by
        unfold paD; split
        · exact Nat.le_trans (dgs_le _) (trimPre_le _ _)
        · simp
      have c30 := fun w => signif_any (paD N) w (by omega)
      generalize paD N = P at *
      generalize paB N = y at *
      cases z
      · simp only [Bool.false_and, Bool.false_eq_true, if_false]
        go_enter Tryz.func78, Tryz.ntmps78
        go_wp2_with (first | (go_at_call 109; refine (c31 _).mono ?_; rintro x w1 ⟨rfl, hb1⟩; obtain ⟨hc1, hf1⟩ := gbcell hb1; have hz1_0 : w.heap.size < w1.heap.size := glt_below hb1 ltg; have hl1_0 := Nat.le_of_lt hz1_0; have hA1 := gbnext (w0 := w) bgo hb1; have hs1 := hA1.size; clear hb1) | (go_at_call 106; refine (c28 _).mono ?_; rintro x w2 ⟨rfl, rfl⟩; clear c28))
        go_wp2_with (first | (go_at_call 106; refine (c28n _).mono ?_; rintro x w2 ⟨rfl, rfl⟩; clear c28n))
        exact bodyPost_ret (v := .tuple #[.agg #[.int .i64 0, .bool false, .bool false, .string ⟨#[]⟩, .int .i64 0], .bool false]) (by simp only [results, Tryz.results78]; go_simp) rfl ⟨rfl, bgo⟩
      · cases y
        · simp only [Bool.true_and, Bool.false_eq_true, if_false]
          go_enter Tryz.func78, Tryz.ntmps78
          go_wp2_with (first | (go_at_call 109; refine (c31 _).mono ?_; rintro x w1 ⟨rfl, hb1⟩; obtain ⟨hc1, hf1⟩ := gbcell hb1; have hz1_0 : w.heap.size < w1.heap.size := glt_below hb1 ltg; have hl1_0 := Nat.le_of_lt hz1_0; have hA1 := gbnext (w0 := w) bgo hb1; have hs1 := hA1.size; clear hb1) | (go_at_call 106; refine (c28 _).mono ?_; rintro x w2 ⟨rfl, rfl⟩; clear c28))
          go_wp2_with (first | (go_at_call 106; refine (c28n _).mono ?_; rintro x w2 ⟨rfl, rfl⟩; clear c28n) | (go_at_call 110; refine (c32 _).mono ?_; rintro x w3 ⟨rfl, hb3⟩; obtain ⟨hc3, hf3⟩ := gbcell hb3; have hz3_0 : w.heap.size < w3.heap.size := glt_below hb3 ltg; have hl3_0 := Nat.le_of_lt hz3_0; have hA3 := gbnext (w0 := w) bgo hb3; have hs3 := hA3.size; clear hb3))
          exact bodyPost_ret (v := .tuple #[.agg #[.int .i64 0, .bool false, .bool false, .string ⟨#[]⟩, .int .i64 0], .bool false]) (by simp only [results, Tryz.results78]; go_simp) rfl ⟨rfl, bgo⟩
        · simp only [Bool.true_and, if_true]
          go_enter Tryz.func78, Tryz.ntmps78
          go_wp2_with (first | (go_at_call 109; refine (c31 _).mono ?_; rintro x w1 ⟨rfl, hb1⟩; obtain ⟨hc1, hf1⟩ := gbcell hb1; have hz1_0 : w.heap.size < w1.heap.size := glt_below hb1 ltg; have hl1_0 := Nat.le_of_lt hz1_0; have hA1 := gbnext (w0 := w) bgo hb1; have hs1 := hA1.size; clear hb1) | (go_at_call 106; refine (c28 _).mono ?_; rintro x w2 ⟨rfl, rfl⟩; clear c28))
          go_wp2_with (first | (go_at_call 106; refine (c28n _).mono ?_; rintro x w2 ⟨rfl, rfl⟩; clear c28n) | (go_at_call 110; refine (c32 _).mono ?_; rintro x w3 ⟨rfl, hb3⟩; obtain ⟨hc3, hf3⟩ := gbcell hb3; have hz3_0 : w.heap.size < w3.heap.size := glt_below hb3 ltg; have hl3_0 := Nat.le_of_lt hz3_0; have hA3 := gbnext (w0 := w) bgo hb3; have hs3 := hA3.size; clear hb3) | (go_at_call 108; refine (c30 _).mono ?_; rintro x w4 ⟨rfl, hb4⟩; obtain ⟨hc4, hf4⟩ := gbcell hb4; have hz4_0 : w.heap.size < w4.heap.size := glt_below hb4 ltg; have hl4_0 := Nat.le_of_lt hz4_0; have hA4 := gbnext (w0 := w) bgo hb4; have hs4 := hA4.size; clear hb4))
          exact bodyPost_ret (v := .tuple #[.agg #[.int .i64 3, .bool false, .bool g, .string (B (bar P)), .int .i64 0], .bool true]) (by simp only [results, Tryz.results78]; go_simp) rfl ⟨rfl, bgo⟩
end Go.Proofs.YtoobncgmcnmgjaaGreatDoor

namespace Go.Proofs.YtoobncgmcnmgjaaGreatDoor
open Go.RowKit

/-- a number's parts -/
structure Prt where
  cls : Int
  sg : Bool
  sn : Bool
  dig : List UInt8
  ex : Int
def Prt.v (p : Prt) : Value := PV p.cls p.sg p.sn p.dig p.ex
def Prt.zero : Prt := ⟨0, false, false, [], 0⟩
/-- the parts of a text whose sign z is gone -/
def bodP (z : Bool) (r : List UInt8) : Option Prt :=
  if finB r then some ⟨1, z, false, finD r, finE r⟩
  else if infB (sml r) then some ⟨2, z, false, [], 0⟩
  else if nanB (sml r) then some ⟨3, z, Lib.hasPrefix (sml r) [115], bar (paD (nanR (sml r))), 0⟩
  else none
def cutP (l : List UInt8) : Option Prt := if 4000 < l.length then none else bodP (gsgB l) (sgR l)
def cutE (l : List UInt8) : Int := if 4000 < l.length then 4 else if (cutP l).isSome then 0 else 2
def cutV (l : List UInt8) : Prt := (cutP l).getD Prt.zero
set_option maxHeartbeats 2000000 in
theorem cut_long (l : List UInt8) (w : World) (hs : l.length < 10001) (hl : 4000 < l.length) :
    Calls Tryz.prog 44 #[.string (B l)] w fun e w' => e = .returned (.tuple #[PV 0 false false [] 0, .int .i64 4]) ∧ Below w.heap.size w w' := by
  have hsz := B_size l
  have hi : (4000 : Int) < l.length := by omega
  unfold PV
  go_enter Tryz.func44, Tryz.ntmps44
  go_wp2
  exact bodyPost_ret (v := .tuple #[.agg #[.int .i64 0, .bool false, .bool false, .string ⟨#[]⟩, .int .i64 0], .int .i64 4]) (by simp only [results, Tryz.results44]; go_simp) rfl ⟨rfl, bgo⟩
set_option maxHeartbeats 2000000 in
theorem cut_fin (l : List UInt8) (w : World) (hl : l.length ≤ 4000) (hf : finB (sgR l) = true) :
    Calls Tryz.prog 44 #[.string (B l)] w fun e w' => e = .returned (.tuple #[PV 1 (gsgB l) false (finD (sgR l)) (finE (sgR l)), .int .i64 0]) ∧ Below w.heap.size w w' := by
  have hsz := B_size l
  have hi : (l.length : Int) ≤ 4000 := by omega
  have hsl := sgR_le l
  have c16 := fun w => lsign_any l w (by omega)
  have c17 := fun w => fin_eq (sgR l) w (by omega)
  rw [hf] at c17
  simp only [if_true] at c17
  unfold PV at c17 ⊢
  generalize finD (sgR l) = D at *
  generalize finE (sgR l) = E at *
  generalize gsgB l = z at *
  generalize sgR l = R at *
  have hsm : ∀ (W : World) (b i : Nat) (v : Value), (W.setCell ⟨b, i, none⟩ v).cell? ⟨b, i, none⟩ = (W.cell? ⟨b, i, none⟩).map fun _ => v := fun W b i v => gcell_set_map W b i v
  go_enter Tryz.func44, Tryz.ntmps44
  go_wp2_with (first | (go_at_call 76; refine (c16 _).mono ?_; rintro x w1 ⟨rfl, hb1⟩; obtain ⟨hc1, hf1⟩ := gbcell hb1; have hz1_0 : w.heap.size < w1.heap.size := glt_below hb1 ltg; have hl1_0 := Nat.le_of_lt hz1_0; have hA1 := gbnext (w0 := w) bgo hb1; have hs1 := hA1.size; clear hb1) | (go_at_call 77; refine (c17 _).mono ?_; rintro x w2 ⟨rfl, hb2⟩; obtain ⟨hc2, hf2⟩ := gbcell hb2; have hz2_0 : w.heap.size < w2.heap.size := glt_below hb2 ltg; have hl2_0 := Nat.le_of_lt hz2_0; have hA2 := gbnext (w0 := w) bgo hb2; have hs2 := hA2.size; clear hb2))
  exact bodyPost_ret (v := .tuple #[.agg #[.int .i64 1, .bool z, .bool false, .string (B D), .int .i64 E], .int .i64 0]) (by simp only [results, Tryz.results44]; go_simp) rfl ⟨rfl, bgo⟩
set_option maxHeartbeats 2000000 in
theorem cut_wo (l : List UInt8) (w : World) (hl : l.length ≤ 4000) (hf : finB (sgR l) = false) (C : Int) (G : Bool) (D : List UInt8) (hv : woV (sgR l) = PV C false G D 0) (hb : woB (sgR l) = true) :
    Calls Tryz.prog 44 #[.string (B l)] w fun e w' => e = .returned (.tuple #[PV C (gsgB l) G D 0, .int .i64 0]) ∧ Below w.heap.size w w' := by
  have hsz := B_size l
  have hi : (l.length : Int) ≤ 4000 := by omega
  have hsl := sgR_le l
  have c16 := fun w => lsign_any l w (by omega)
  have c17 := fun w => fin_eq (sgR l) w (by omega)
  have c18 := fun w => gword_any (sgR l) w (by omega)
  rw [hf] at c17
  rw [hv, hb] at c18
  simp only [Bool.false_eq_true, if_false] at c17
  unfold PV at c17 c18 ⊢
  clear hv hb hf
  generalize gsgB l = z at *
  generalize sgR l = R at *
  have hsm := gcell_set_map
  go_enter Tryz.func44, Tryz.ntmps44
  go_wp2_with (first | (go_at_call 76; refine (c16 _).mono ?_; rintro x w1 ⟨rfl, hb1⟩; obtain ⟨hc1, hf1⟩ := gbcell hb1; have hz1_0 : w.heap.size < w1.heap.size := glt_below hb1 ltg; have hl1_0 := Nat.le_of_lt hz1_0; have hA1 := gbnext (w0 := w) bgo hb1; have hs1 := hA1.size; clear hb1) | (go_at_call 77; refine (c17 _).mono ?_; rintro x w2 ⟨rfl, hb2⟩; obtain ⟨hc2, hf2⟩ := gbcell hb2; have hz2_0 : w.heap.size < w2.heap.size := glt_below hb2 ltg; have hl2_0 := Nat.le_of_lt hz2_0; have hA2 := gbnext (w0 := w) bgo hb2; have hs2 := hA2.size; clear hb2) | (go_at_call 78; refine (c18 _).mono ?_; rintro x w3 ⟨rfl, hb3⟩; obtain ⟨hc3, hf3⟩ := gbcell hb3; have hz3_0 : w.heap.size < w3.heap.size := glt_below hb3 ltg; have hl3_0 := Nat.le_of_lt hz3_0; have hz3_1 : w2.heap.size < w3.heap.size := glt_below hb3 ltg; have hl3_1 := Nat.le_of_lt hz3_1; have hA3 := gbnext (w0 := w) bgo hb3; have hs3 := hA3.size; clear hb3))
  exact bodyPost_ret (v := .tuple #[.agg #[.int .i64 C, .bool z, .bool G, .string (B D), .int .i64 0], .int .i64 0]) (by simp only [results, Tryz.results44]; go_simp) rfl ⟨rfl, bgo⟩
set_option maxHeartbeats 2000000 in
theorem cut_no (l : List UInt8) (w : World) (hl : l.length ≤ 4000) (hf : finB (sgR l) = false) (hv : woV (sgR l) = PV 0 false false [] 0) (hb : woB (sgR l) = false) :
    Calls Tryz.prog 44 #[.string (B l)] w fun e w' => e = .returned (.tuple #[PV 0 false false [] 0, .int .i64 2]) ∧ Below w.heap.size w w' := by
  have hsz := B_size l
  have hi : (l.length : Int) ≤ 4000 := by omega
  have hsl := sgR_le l
  have c16 := fun w => lsign_any l w (by omega)
  have c17 := fun w => fin_eq (sgR l) w (by omega)
  have c18 := fun w => gword_any (sgR l) w (by omega)
  rw [hf] at c17
  rw [hv, hb] at c18
  simp only [Bool.false_eq_true, if_false] at c17
  unfold PV at c17 c18 ⊢
  clear hv hb hf
  generalize gsgB l = z at *
  generalize sgR l = R at *
  have hsm := gcell_set_map
  go_enter Tryz.func44, Tryz.ntmps44
  go_wp2_with (first | (go_at_call 76; refine (c16 _).mono ?_; rintro x w1 ⟨rfl, hb1⟩; obtain ⟨hc1, hf1⟩ := gbcell hb1; have hz1_0 : w.heap.size < w1.heap.size := glt_below hb1 ltg; have hl1_0 := Nat.le_of_lt hz1_0; have hA1 := gbnext (w0 := w) bgo hb1; have hs1 := hA1.size; clear hb1) | (go_at_call 77; refine (c17 _).mono ?_; rintro x w2 ⟨rfl, hb2⟩; obtain ⟨hc2, hf2⟩ := gbcell hb2; have hz2_0 : w.heap.size < w2.heap.size := glt_below hb2 ltg; have hl2_0 := Nat.le_of_lt hz2_0; have hA2 := gbnext (w0 := w) bgo hb2; have hs2 := hA2.size; clear hb2) | (go_at_call 78; refine (c18 _).mono ?_; rintro x w3 ⟨rfl, hb3⟩; obtain ⟨hc3, hf3⟩ := gbcell hb3; have hz3_0 : w.heap.size < w3.heap.size := glt_below hb3 ltg; have hl3_0 := Nat.le_of_lt hz3_0; have hz3_1 : w2.heap.size < w3.heap.size := glt_below hb3 ltg; have hl3_1 := Nat.le_of_lt hz3_1; have hA3 := gbnext (w0 := w) bgo hb3; have hs3 := hA3.size; clear hb3))
  exact bodyPost_ret (v := .tuple #[.agg #[.int .i64 0, .bool false, .bool false, .string ⟨#[]⟩, .int .i64 0], .int .i64 2]) (by simp only [results, Tryz.results44]; go_simp) rfl ⟨rfl, bgo⟩
theorem cut_any (l : List UInt8) (w : World) (hs : l.length < 10001) :
    Calls Tryz.prog 44 #[.string (B l)] w fun e w' => e = .returned (.tuple #[(cutV l).v, .int .i64 (cutE l)]) ∧ Below w.heap.size w w' := by
  unfold cutV cutE cutP
  by_cases hl : 4000 < l.length
  · rw [if_pos hl, if_pos hl]
    exact cut_long l w hs hl
  · rw [if_neg hl, if_neg hl]
    unfold bodP
    by_cases hf : finB (sgR l) = true
    · rw [if_pos hf]
      exact cut_fin l w (by omega) hf
    · rw [if_neg hf]
      have hf' : finB (sgR l) = false := by simpa using hf
      by_cases h1 : infB (sml (sgR l)) = true
      · rw [if_pos h1]
        exact cut_wo l w (by omega) hf' 2 false [] (by unfold woV; rw [if_pos h1]) (by unfold woB; rw [h1]; rfl)
      · rw [if_neg h1]
        by_cases h2 : nanB (sml (sgR l)) = true
        · rw [if_pos h2]
          exact cut_wo l w (by omega) hf' 3 _ _ (by unfold woV; rw [if_neg h1, if_pos h2]; rfl) (by unfold woB; rw [h2, Bool.or_true])
        · rw [if_neg h2]
          exact cut_no l w (by omega) hf' (by unfold woV; rw [if_neg h1, if_neg h2]) (by unfold woB; rw [show infB (sml (sgR l)) = false by simpa using h1, show nanB (sml (sgR l)) = false by simpa using h2]; rfl)
end Go.Proofs.YtoobncgmcnmgjaaGreatDoor

namespace Go.Proofs.YtoobncgmcnmgjaaGreatDoor
open Go.RowKit

theorem by_app_at (a b : List UInt8) (i : Nat) : by_ (a ++ b) (a.length + i) = by_ b i := by
  induction a with
  | nil => simp
  | cons c r ih => rw [List.cons_append, List.length_cons, show r.length + 1 + i = (r.length + i) + 1 by omega, by_succ, ih]
end Go.Proofs.YtoobncgmcnmgjaaGreatDoor
