/-
  Texts that the proof leans on, joined: Gf, Gg, Gh, Ml.
-/
import Derived.Test.YtplocajjfoiklaaGreatDoorJ10
import Derived.Test.YtplocajjfoiklaaGreatDoorJ1
import Derived.Test.YtplocajjfoiklaaGreatDoorJ9
set_option linter.unusedVariables false
set_option linter.unusedSimpArgs false
set_option maxRecDepth 20000
set_option linter.unusedSectionVars false
namespace Go.Proofs.YtplocajjfoiklaaGreatDoor
open Go.RowKit

theorem gtrim_any (l : List UInt8) (w : World) : Calls Tryz.prog 126 #[.string (B l), .string ⟨#[48]⟩] w fun e w' => e = .returned (.string (B (bar l))) ∧ w' = w :=
  Tryz.strings_TrimLeft_one (B l) 48 (by decide) w
set_option maxHeartbeats 400000 in
theorem clone_any (l : List UInt8) (w : World) (hs : l.length < 4294967296) : Calls Tryz.prog 188 #[.string (B l)] w fun e w' => e = .returned (.string (B l)) ∧ Below w.heap.size w w' := by
  have c := fun w => Tryz.stringslite_Clone (B l) w (by rw [B_size]; omega)
  go_enter Tryz.func188, Tryz.ntmps188
  go_wp2_with (go_at_call 220; refine (c _).mono ?_; rintro x w1 ⟨rfl, hb1⟩)
  go_ret
  exact ⟨rfl, hb1⟩
theorem cutp_any (l p : List UInt8) (w : World) : Calls Tryz.prog 73 #[.string (B l), .string ⟨p.toArray⟩] w fun e w' => e = .returned (.tuple #[.string (B (Lib.trimPrefix l p)), .bool (Lib.hasPrefix l p)]) ∧ w' = w :=
  Tryz.strings_CutPrefix (B l) (B p) w
set_option maxHeartbeats 400000 in
theorem signif_any (l : List UInt8) (w : World) (hs : l.length < 4294967296) : Calls Tryz.prog 141 #[.string (B l)] w fun e w' => e = .returned (.string (B (bar l))) ∧ Below w.heap.size w w' := by
  have c := fun w => gtrim_any l w
  have c2 := fun w => clone_any (bar l) w (by have := bar_le l; omega)
  go_enter Tryz.func141, Tryz.ntmps141
  go_wp2_with (first | (go_at_call 126; refine (c _).mono ?_; rintro x w1 ⟨rfl, rfl⟩) | (go_at_call 188; refine (c2 _).mono ?_; rintro x w2 ⟨rfl, hb2⟩))
  go_ret
  exact ⟨rfl, hb2⟩
/-- parts, as a value -/
def PV (c : Int) (s g : Bool) (d : List UInt8) (e : Int) : Value := .agg #[.int .i64 c, .bool s, .bool g, .string (B d), .int .i64 e]
def clampE (e : Int) : Int := min (max e (-1000000000)) 1000000000
/-- behind the point, and behind that -/
def frac (s : List UInt8) : List UInt8 := if Lib.hasPrefix (rst s) [46] then dgs (Lib.trimPrefix (rst s) [46]) else []
def behind (s : List UInt8) : List UInt8 := if Lib.hasPrefix (rst s) [46] then rst (Lib.trimPrefix (rst s) [46]) else rst s
def finB (s : List UInt8) : Bool := exB (behind s) && !((dgs s).isEmpty && (frac s).isEmpty)
def finD (s : List UInt8) : List UInt8 := bar (dgs s ++ frac s)
def finE (s : List UInt8) : Int := clampE (exI (behind s) - (frac s).length)
theorem trimPre_le (l p : List UInt8) : (Lib.trimPrefix l p).length ≤ l.length := by unfold Lib.trimPrefix; split <;> simp
theorem exS_bd (r : List UInt8) (h : isd (sgR r) = true) : -2000000000 ≤ exS r ∧ exS r ≤ 2000000000 := by
  have := vc_bd (isd_all h)
  unfold exS; split <;> omega
theorem exI_bd (l : List UInt8) : -2000000000 ≤ exI l ∧ exI l ≤ 2000000000 := by
  cases l with
  | nil => show -2000000000 ≤ (0 : Int) ∧ (0 : Int) ≤ 2000000000; omega
  | cons c r =>
    show -2000000000 ≤ (if exB (c :: r) then exS r else 0) ∧ (if exB (c :: r) then exS r else 0) ≤ 2000000000
    by_cases h : exB (c :: r) = true
    · rw [if_pos h]
      have : isd (sgR r) = true := by
        have h2 : (decide _ && isd (sgR r)) = true := h
        rw [Bool.and_eq_true] at h2; exact h2.2
      exact exS_bd r this
    · rw [if_neg h]; omega
/-- without a point -/
def npB (s : List UInt8) : Bool := exB (rst s) && !(dgs s).isEmpty
set_option maxHeartbeats 2000000 in
theorem finite_np (s : List UInt8) (w : World) (hs : s.length < 10001) (hp : Lib.hasPrefix (rst s) [46] = false) :
    Calls Tryz.prog 86 #[.string (B s)] w fun e w' => e = .returned (.tuple #[if npB s then PV 1 false false (bar (dgs s)) (clampE (exI (rst s))) else PV 0 false false [] 0, .bool (npB s)]) ∧ Below w.heap.size w w' := by
  have htl := B_toList
  have c27 := fun w => ldig_any s w (by omega)
  have c28 : ∀ w, Calls Tryz.prog 73 #[.string (B (rst s)), .string ⟨#[46]⟩] w fun e w' => e = .returned (.tuple #[.string (B (Lib.trimPrefix (rst s) [46])), .bool (Lib.hasPrefix (rst s) [46])]) ∧ w' = w := fun w => cutp_any (rst s) [46] w
  rw [hp] at c28
  have hdl := dgs_le s
  have c29 := fun w => exponent_any (rst s) w (by have := rst_le s; omega)
  have hx := exI_bd (rst s)
  have c30 := fun w => signif_any (dgs s) w (by omega)
  unfold npB PV clampE
  generalize bar (dgs s) = D at *
  generalize Lib.trimPrefix (rst s) [46] = T at *
  generalize rst s = R at *
  generalize exI R = E at *
  generalize exB R = z at *
  clear hp
  cases z
  · rw [Bool.false_and]
    clear c30
    generalize dgs s = X at *
    simp only [Bool.false_eq_true, if_false]
    go_enter Tryz.func86, Tryz.ntmps86
    go_wp2_with (first | (go_at_call 139; refine (c27 _).mono ?_; rintro x w1 ⟨rfl, hb1⟩; obtain ⟨hc1, hf1⟩ := gbcell hb1; have hz1_0 : w.heap.size < w1.heap.size := glt_below hb1 ltg; have hl1_0 := Nat.le_of_lt hz1_0; have hA1 := gbnext (w0 := w) bgo hb1; have hs1 := hA1.size; clear hb1) | (go_at_call 73; refine (c28 _).mono ?_; rintro x w2 ⟨rfl, rfl⟩) | (go_at_call 140; refine (c29 _).mono ?_; rintro x w3 ⟨rfl, hb3⟩; obtain ⟨hc3, hf3⟩ := gbcell hb3; have hz3_0 : w.heap.size < w3.heap.size := glt_below hb3 ltg; have hl3_0 := Nat.le_of_lt hz3_0; have hA3 := gbnext (w0 := w) bgo hb3; have hs3 := hA3.size; clear hb3) | (go_at_call 141; refine (c30 _).mono ?_; rintro x w4 ⟨rfl, hb4⟩; obtain ⟨hc4, hf4⟩ := gbcell hb4; have hz4_0 : w.heap.size < w4.heap.size := glt_below hb4 ltg; have hl4_0 := Nat.le_of_lt hz4_0; have hA4 := gbnext (w0 := w) bgo hb4; have hs4 := hA4.size; clear hb4))
    exact bodyPost_ret (v := .tuple #[.agg #[.int .i64 0, .bool false, .bool false, .string ⟨#[]⟩, .int .i64 0], .bool false]) (by simp only [results, Tryz.results86]; go_simp) rfl ⟨rfl, bgo⟩
  · rw [Bool.true_and]
    generalize dgs s = X at *
    cases X with
    | nil =>
      clear c30
      simp only [List.isEmpty_nil, Bool.not_true, Bool.false_eq_true, if_false]
      go_enter Tryz.func86, Tryz.ntmps86
      go_wp2_with (first | (go_at_call 139; refine (c27 _).mono ?_; rintro x w1 ⟨rfl, hb1⟩; obtain ⟨hc1, hf1⟩ := gbcell hb1; have hz1_0 : w.heap.size < w1.heap.size := glt_below hb1 ltg; have hl1_0 := Nat.le_of_lt hz1_0; have hA1 := gbnext (w0 := w) bgo hb1; have hs1 := hA1.size; clear hb1) | (go_at_call 73; refine (c28 _).mono ?_; rintro x w2 ⟨rfl, rfl⟩) | (go_at_call 140; refine (c29 _).mono ?_; rintro x w3 ⟨rfl, hb3⟩; obtain ⟨hc3, hf3⟩ := gbcell hb3; have hz3_0 : w.heap.size < w3.heap.size := glt_below hb3 ltg; have hl3_0 := Nat.le_of_lt hz3_0; have hA3 := gbnext (w0 := w) bgo hb3; have hs3 := hA3.size; clear hb3) | (go_at_call 141; refine (c30 _).mono ?_; rintro x w4 ⟨rfl, hb4⟩; obtain ⟨hc4, hf4⟩ := gbcell hb4; have hz4_0 : w.heap.size < w4.heap.size := glt_below hb4 ltg; have hl4_0 := Nat.le_of_lt hz4_0; have hA4 := gbnext (w0 := w) bgo hb4; have hs4 := hA4.size; clear hb4))
      exact bodyPost_ret (v := .tuple #[.agg #[.int .i64 0, .bool false, .bool false, .string ⟨#[]⟩, .int .i64 0], .bool false]) (by simp only [results, Tryz.results86]; go_simp) rfl ⟨rfl, bgo⟩
    | cons x xs =>
      simp only [List.isEmpty_cons, Bool.not_false, if_true]
      have hap := B_app (x :: xs) []
      rw [List.append_nil] at hap
      have hb9 : (B (x :: xs)).size < 10001 := by rw [B_size]; omega
      have hn : B [] = ⟨#[]⟩ := rfl
      have hn0 : (⟨#[]⟩ : ByteArray).size = 0 := rfl
      rw [hn] at hap
      go_enter Tryz.func86, Tryz.ntmps86
      go_wp2_with (first | (go_at_call 139; refine (c27 _).mono ?_; rintro x w1 ⟨rfl, hb1⟩; obtain ⟨hc1, hf1⟩ := gbcell hb1; have hz1_0 : w.heap.size < w1.heap.size := glt_below hb1 ltg; have hl1_0 := Nat.le_of_lt hz1_0; have hA1 := gbnext (w0 := w) bgo hb1; have hs1 := hA1.size; clear hb1) | (go_at_call 73; refine (c28 _).mono ?_; rintro x w2 ⟨rfl, rfl⟩) | (go_at_call 140; refine (c29 _).mono ?_; rintro x w3 ⟨rfl, hb3⟩; obtain ⟨hc3, hf3⟩ := gbcell hb3; have hz3_0 : w.heap.size < w3.heap.size := glt_below hb3 ltg; have hl3_0 := Nat.le_of_lt hz3_0; have hA3 := gbnext (w0 := w) bgo hb3; have hs3 := hA3.size; clear hb3) | (go_at_call 141; refine (c30 _).mono ?_; rintro x w4 ⟨rfl, hb4⟩; obtain ⟨hc4, hf4⟩ := gbcell hb4; have hz4_0 : w.heap.size < w4.heap.size := glt_below hb4 ltg; have hl4_0 := Nat.le_of_lt hz4_0; have hA4 := gbnext (w0 := w) bgo hb4; have hs4 := hA4.size; clear hb4))
      exact bodyPost_ret (v := .tuple #[.agg #[.int .i64 1, .bool false, .bool false, .string (B D), .int .i64 (min (max E (-1000000000)) 1000000000)], .bool true]) (by simp only [results, Tryz.results86]; go_simp) rfl ⟨rfl, bgo⟩
/-- with a point -/
def ptB (X T : List UInt8) : Bool := exB (rst T) && !(X.isEmpty && (dgs T).isEmpty)
set_option maxHeartbeats 2000000 in
theorem finite_pt (s T : List UInt8) (w : World) (hs : s.length < 10001) (hp : Lib.hasPrefix (rst s) [46] = true) (hT : Lib.trimPrefix (rst s) [46] = T) :
    Calls Tryz.prog 86 #[.string (B s)] w fun e w' => e = .returned (.tuple #[if ptB (dgs s) T then PV 1 false false (bar (dgs s ++ dgs T)) (clampE (exI (rst T) - (dgs T).length)) else PV 0 false false [] 0, .bool (ptB (dgs s) T)]) ∧ Below w.heap.size w w' := by
  have htl := B_toList
  have c27 := fun w => ldig_any s w (by omega)
  have c28 : ∀ w, Calls Tryz.prog 73 #[.string (B (rst s)), .string ⟨#[46]⟩] w fun e w' => e = .returned (.tuple #[.string (B (Lib.trimPrefix (rst s) [46])), .bool (Lib.hasPrefix (rst s) [46])]) ∧ w' = w := fun w => cutp_any (rst s) [46] w
  rw [hp] at c28
  have hdl := dgs_le s
  rw [hT] at c28
  have hTl : T.length ≤ s.length := by rw [← hT]; exact Nat.le_trans (trimPre_le _ _) (rst_le _)
  have hFl := dgs_le T
  have c27b := fun w => ldig_any T w (by omega)
  have c29 := fun w => exponent_any (rst T) w (by have := rst_le T; omega)
  have hx := exI_bd (rst T)
  have c30 := fun w => signif_any (dgs s ++ dgs T) w (by rw [List.length_append]; omega)
  have hap := B_app (dgs s) (dgs T)
  unfold ptB PV clampE
  generalize bar (dgs s ++ dgs T) = D at *
  clear hT hp
  generalize rst s = R at *
  generalize exI (rst T) = E at *
  generalize exB (rst T) = z at *
  generalize rst T = R2 at *
  generalize dgs T = F at *
  have hszF := B_size F
  have hF9 : (B F).size < 10001 := by rw [hszF]; omega
  cases z
  · rw [Bool.false_and]
    clear c30 hap
    generalize dgs s = X at *
    simp only [Bool.false_eq_true, if_false]
    go_enter Tryz.func86, Tryz.ntmps86
    go_wp2_with (first | (go_at_call 139; refine (c27 _).mono ?_; rintro x w1 ⟨rfl, hb1⟩; clear c27; obtain ⟨hc1, hf1⟩ := gbcell hb1; have hz1_0 : w.heap.size < w1.heap.size := glt_below hb1 ltg; have hl1_0 := Nat.le_of_lt hz1_0; have hA1 := gbnext (w0 := w) bgo hb1; have hs1 := hA1.size; clear hb1) | (go_at_call 73; refine (c28 _).mono ?_; rintro x w2 ⟨rfl, rfl⟩))
    go_wp2_with (first | (go_at_call 139; refine (c27b _).mono ?_; rintro x w5 ⟨rfl, hb5⟩; obtain ⟨hc5, hf5⟩ := gbcell hb5; have hz5_0 : w.heap.size < w5.heap.size := glt_below hb5 ltg; have hl5_0 := Nat.le_of_lt hz5_0; have hA5 := gbnext (w0 := w) bgo hb5; have hs5 := hA5.size; clear hb5) | (go_at_call 140; refine (c29 _).mono ?_; rintro x w3 ⟨rfl, hb3⟩; obtain ⟨hc3, hf3⟩ := gbcell hb3; have hz3_0 : w.heap.size < w3.heap.size := glt_below hb3 ltg; have hl3_0 := Nat.le_of_lt hz3_0; have hA3 := gbnext (w0 := w) bgo hb3; have hs3 := hA3.size; clear hb3) | (go_at_call 141; refine (c30 _).mono ?_; rintro x w4 ⟨rfl, hb4⟩; obtain ⟨hc4, hf4⟩ := gbcell hb4; have hz4_0 : w.heap.size < w4.heap.size := glt_below hb4 ltg; have hl4_0 := Nat.le_of_lt hz4_0; have hA4 := gbnext (w0 := w) bgo hb4; have hs4 := hA4.size; clear hb4))
    exact bodyPost_ret (v := .tuple #[.agg #[.int .i64 0, .bool false, .bool false, .string ⟨#[]⟩, .int .i64 0], .bool false]) (by simp only [results, Tryz.results86]; go_simp) rfl ⟨rfl, bgo⟩
  · rw [Bool.true_and]
    generalize dgs s = X at *
    cases X with
    | nil =>
      cases F with
      | nil =>
        clear c30 hap
        simp only [List.isEmpty_nil, Bool.true_and, Bool.not_true, Bool.false_eq_true, if_false]
        go_enter Tryz.func86, Tryz.ntmps86
        go_wp2_with (first | (go_at_call 139; refine (c27 _).mono ?_; rintro x w1 ⟨rfl, hb1⟩; clear c27; obtain ⟨hc1, hf1⟩ := gbcell hb1; have hz1_0 : w.heap.size < w1.heap.size := glt_below hb1 ltg; have hl1_0 := Nat.le_of_lt hz1_0; have hA1 := gbnext (w0 := w) bgo hb1; have hs1 := hA1.size; clear hb1) | (go_at_call 73; refine (c28 _).mono ?_; rintro x w2 ⟨rfl, rfl⟩))
        go_wp2_with (first | (go_at_call 139; refine (c27b _).mono ?_; rintro x w5 ⟨rfl, hb5⟩; obtain ⟨hc5, hf5⟩ := gbcell hb5; have hz5_0 : w.heap.size < w5.heap.size := glt_below hb5 ltg; have hl5_0 := Nat.le_of_lt hz5_0; have hA5 := gbnext (w0 := w) bgo hb5; have hs5 := hA5.size; clear hb5) | (go_at_call 140; refine (c29 _).mono ?_; rintro x w3 ⟨rfl, hb3⟩; obtain ⟨hc3, hf3⟩ := gbcell hb3; have hz3_0 : w.heap.size < w3.heap.size := glt_below hb3 ltg; have hl3_0 := Nat.le_of_lt hz3_0; have hA3 := gbnext (w0 := w) bgo hb3; have hs3 := hA3.size; clear hb3) | (go_at_call 141; refine (c30 _).mono ?_; rintro x w4 ⟨rfl, hb4⟩; obtain ⟨hc4, hf4⟩ := gbcell hb4; have hz4_0 : w.heap.size < w4.heap.size := glt_below hb4 ltg; have hl4_0 := Nat.le_of_lt hz4_0; have hA4 := gbnext (w0 := w) bgo hb4; have hs4 := hA4.size; clear hb4))
        exact bodyPost_ret (v := .tuple #[.agg #[.int .i64 0, .bool false, .bool false, .string ⟨#[]⟩, .int .i64 0], .bool false]) (by simp only [results, Tryz.results86]; go_simp) rfl ⟨rfl, bgo⟩
      | cons f fs =>
        simp only [List.isEmpty_nil, List.isEmpty_cons, Bool.true_and, Bool.not_false, if_true]
        have hb9 : (B []).size = 0 := rfl
        have hfs : fs.length + 1 < 10001 := by rw [List.length_cons] at hFl; omega
        go_enter Tryz.func86, Tryz.ntmps86
        go_wp2_with (first | (go_at_call 139; refine (c27 _).mono ?_; rintro x w1 ⟨rfl, hb1⟩; clear c27; obtain ⟨hc1, hf1⟩ := gbcell hb1; have hz1_0 : w.heap.size < w1.heap.size := glt_below hb1 ltg; have hl1_0 := Nat.le_of_lt hz1_0; have hA1 := gbnext (w0 := w) bgo hb1; have hs1 := hA1.size; clear hb1) | (go_at_call 73; refine (c28 _).mono ?_; rintro x w2 ⟨rfl, rfl⟩))
        go_wp2_with (first | (go_at_call 139; refine (c27b _).mono ?_; rintro x w5 ⟨rfl, hb5⟩; obtain ⟨hc5, hf5⟩ := gbcell hb5; have hz5_0 : w.heap.size < w5.heap.size := glt_below hb5 ltg; have hl5_0 := Nat.le_of_lt hz5_0; have hA5 := gbnext (w0 := w) bgo hb5; have hs5 := hA5.size; clear hb5) | (go_at_call 140; refine (c29 _).mono ?_; rintro x w3 ⟨rfl, hb3⟩; obtain ⟨hc3, hf3⟩ := gbcell hb3; have hz3_0 : w.heap.size < w3.heap.size := glt_below hb3 ltg; have hl3_0 := Nat.le_of_lt hz3_0; have hA3 := gbnext (w0 := w) bgo hb3; have hs3 := hA3.size; clear hb3) | (go_at_call 141; refine (c30 _).mono ?_; rintro x w4 ⟨rfl, hb4⟩; obtain ⟨hc4, hf4⟩ := gbcell hb4; have hz4_0 : w.heap.size < w4.heap.size := glt_below hb4 ltg; have hl4_0 := Nat.le_of_lt hz4_0; have hA4 := gbnext (w0 := w) bgo hb4; have hs4 := hA4.size; clear hb4))
        exact bodyPost_ret (v := .tuple #[.agg #[.int .i64 1, .bool false, .bool false, .string (B D), .int .i64 (min (max (E - (f :: fs).length) (-1000000000)) 1000000000)], .bool true]) (by simp only [results, Tryz.results86]; go_simp) rfl ⟨rfl, bgo⟩
    | cons x xs =>
      simp only [List.isEmpty_cons, Bool.false_and, Bool.not_false, if_true]
      have hb9 : (B (x :: xs)).size < 10001 := by rw [B_size]; omega
      go_enter Tryz.func86, Tryz.ntmps86
      go_wp2_with (first | (go_at_call 139; refine (c27 _).mono ?_; rintro x w1 ⟨rfl, hb1⟩; clear c27; obtain ⟨hc1, hf1⟩ := gbcell hb1; have hz1_0 : w.heap.size < w1.heap.size := glt_below hb1 ltg; have hl1_0 := Nat.le_of_lt hz1_0; have hA1 := gbnext (w0 := w) bgo hb1; have hs1 := hA1.size; clear hb1) | (go_at_call 73; refine (c28 _).mono ?_; rintro x w2 ⟨rfl, rfl⟩))
      go_wp2_with (first | (go_at_call 139; refine (c27b _).mono ?_; rintro x w5 ⟨rfl, hb5⟩; obtain ⟨hc5, hf5⟩ := gbcell hb5; have hz5_0 : w.heap.size < w5.heap.size := glt_below hb5 ltg; have hl5_0 := Nat.le_of_lt hz5_0; have hA5 := gbnext (w0 := w) bgo hb5; have hs5 := hA5.size; clear hb5) | (go_at_call 140; refine (c29 _).mono ?_; rintro x w3 ⟨rfl, hb3⟩; obtain ⟨hc3, hf3⟩ := gbcell hb3; have hz3_0 : w.heap.size < w3.heap.size := glt_below hb3 ltg; have hl3_0 := Nat.le_of_lt hz3_0; have hA3 := gbnext (w0 := w) bgo hb3; have hs3 := hA3.size; clear hb3) | (go_at_call 141; refine (c30 _).mono ?_; rintro x w4 ⟨rfl, hb4⟩; obtain ⟨hc4, hf4⟩ := gbcell hb4; have hz4_0 : w.heap.size < w4.heap.size := glt_below hb4 ltg; have hl4_0 := Nat.le_of_lt hz4_0; have hA4 := gbnext (w0 := w) bgo hb4; have hs4 := hA4.size; clear hb4))
      exact bodyPost_ret (v := .tuple #[.agg #[.int .i64 1, .bool false, .bool false, .string (B D), .int .i64 (min (max (E - F.length) (-1000000000)) 1000000000)], .bool true]) (by simp only [results, Tryz.results86]; go_simp) rfl ⟨rfl, bgo⟩
theorem fin_eq (s : List UInt8) (w : World) (hs : s.length < 10001) :
    Calls Tryz.prog 86 #[.string (B s)] w fun e w' => e = .returned (.tuple #[if finB s then PV 1 false false (finD s) (finE s) else PV 0 false false [] 0, .bool (finB s)]) ∧ Below w.heap.size w w' := by
  by_cases hp : Lib.hasPrefix (rst s) [46] = true
  · have c := finite_pt s _ w hs hp rfl
    have e1 : finB s = ptB (dgs s) (Lib.trimPrefix (rst s) [46]) := by unfold finB ptB frac behind; rw [if_pos hp, if_pos hp]
    have e2 : finD s = bar (dgs s ++ dgs (Lib.trimPrefix (rst s) [46])) := by unfold finD frac; rw [if_pos hp]
    have e3 : finE s = clampE (exI (rst (Lib.trimPrefix (rst s) [46])) - (dgs (Lib.trimPrefix (rst s) [46])).length) := by unfold finE frac behind; rw [if_pos hp, if_pos hp]
    rw [e1, e2, e3]; exact c
  · have hp' : Lib.hasPrefix (rst s) [46] = false := by simpa using hp
    have c := finite_np s w hs hp'
    have e1 : finB s = npB s := by unfold finB npB frac behind; rw [if_neg hp, if_neg hp]; simp
    have e2 : finD s = bar (dgs s) := by unfold finD frac; rw [if_neg hp, List.append_nil]
    have e3 : finE s = clampE (exI (rst s)) := by unfold finE frac behind; rw [if_neg hp, if_neg hp]; simp
    rw [e1, e2, e3]; exact c
end Go.Proofs.YtplocajjfoiklaaGreatDoor

namespace Go.Proofs.YtplocajjfoiklaaGreatDoor
open Go.RowKit

/-- a payload's digits, and whether it is one -/
def paD (l : List UInt8) : List UInt8 := if Lib.hasPrefix l [40] then dgs (Lib.trimPrefix l [40]) else []
def paB (l : List UInt8) : Bool := l.isEmpty || (Lib.hasPrefix l [40] && (!(dgs (Lib.trimPrefix l [40])).isEmpty && (rst (Lib.trimPrefix l [40]) == [41])))
set_option maxHeartbeats 2000000 in
theorem payload_any (l : List UInt8) (w : World) (hs : l.length < 10001) :
    Calls Tryz.prog 143 #[.string (B l)] w fun e w' => e = .returned (.tuple #[.string (B (paD l)), .bool (paB l)]) ∧ Below w.heap.size w w' := by
  have htl := B_toList
  cases l with
  | nil =>
    go_enter Tryz.func143, Tryz.ntmps143
    go_wp2
    go_ret2
    exact ⟨rfl, Below.refl _ _⟩
  | cons c r =>
    have c28 : ∀ w, Calls Tryz.prog 73 #[.string (B (c :: r)), .string ⟨#[40]⟩] w fun e w' => e = .returned (.tuple #[.string (B (Lib.trimPrefix (c :: r) [40])), .bool (Lib.hasPrefix (c :: r) [40])]) ∧ w' = w := fun w => cutp_any (c :: r) [40] w
    have hTl := trimPre_le (c :: r) [40]
    have c27 := fun w => ldig_any (Lib.trimPrefix (c :: r) [40]) w (by omega)
    unfold paD paB
    generalize Lib.trimPrefix (c :: r) [40] = T at *
    generalize Lib.hasPrefix (c :: r) [40] = z at *
    simp only [List.isEmpty_cons, Bool.false_or]
    cases z
    · simp only [Bool.false_eq_true, if_false, Bool.false_and]
      go_enter Tryz.func143, Tryz.ntmps143
      go_wp2_with (go_at_call 73; refine (c28 _).mono ?_; rintro x w2 ⟨rfl, rfl⟩)
      go_ret2
      exact ⟨rfl, Below.refl _ _⟩
    · simp only [if_true, Bool.true_and]
      generalize dgs T = D at *
      generalize rst T = R at *
      cases D with
      | nil =>
        simp only [List.isEmpty_nil, Bool.not_true, Bool.false_and]
        go_enter Tryz.func143, Tryz.ntmps143
        go_wp2_with (first | (go_at_call 73; refine (c28 _).mono ?_; rintro x w2 ⟨rfl, rfl⟩) | (go_at_call 139; refine (c27 _).mono ?_; rintro x w3 ⟨rfl, hb3⟩))
        go_ret2
        exact ⟨rfl, hb3⟩
      | cons d ds =>
        simp only [List.isEmpty_cons, Bool.not_false, Bool.true_and]
        go_enter Tryz.func143, Tryz.ntmps143
        go_wp2_with (first | (go_at_call 73; refine (c28 _).mono ?_; rintro x w2 ⟨rfl, rfl⟩) | (go_at_call 139; refine (c27 _).mono ?_; rintro x w3 ⟨rfl, hb3⟩))
        go_ret2
        exact ⟨rfl, hb3⟩
/-- a word -/
def infB (x : List UInt8) : Bool := x == [105, 110, 102] || x == [105, 110, 102, 105, 110, 105, 116, 121]
def nanR (x : List UInt8) : List UInt8 := Lib.trimPrefix (Lib.trimPrefix x [115]) [110, 97, 110]
def nanB (x : List UInt8) : Bool := Lib.hasPrefix (Lib.trimPrefix x [115]) [110, 97, 110] && paB (nanR x)
def woB (s : List UInt8) : Bool := infB (sml s) || nanB (sml s)
def woV (s : List UInt8) : Value := if infB (sml s) then PV 2 false false [] 0 else if nanB (sml s) then PV 3 false (Lib.hasPrefix (sml s) [115]) (bar (paD (nanR (sml s)))) 0 else PV 0 false false [] 0
set_option maxHeartbeats 2000000 in
theorem gword_any (s : List UInt8) (w : World) (hs : s.length < 10001) :
    Calls Tryz.prog 87 #[.string (B s)] w fun e w' => e = .returned (.tuple #[woV s, .bool (woB s)]) ∧ Below w.heap.size w w' := by
  have htl := B_toList
  have c31 := fun w => gsmall_any s w hs
  unfold woV woB PV
  have hxl := sml_len s
  generalize sml s = x at *
  have HI : Hid (infB x = (x == [105, 110, 102] || x == [105, 110, 102, 105, 110, 105, 116, 121])) := rfl
  by_cases h1 : x = [105, 110, 102]
  · have hi : infB x = true := by rw [h1]; rfl
    rw [hi]
    subst h1
    simp only [if_true, Bool.true_or]
    go_enter Tryz.func87, Tryz.ntmps87
    go_wp2_with (first | (go_at_call 142; refine (c31 _).mono ?_; rintro x w1 ⟨rfl, hb1⟩; obtain ⟨hc1, hf1⟩ := gbcell hb1; have hz1_0 : w.heap.size < w1.heap.size := glt_below hb1 ltg; have hl1_0 := Nat.le_of_lt hz1_0; have hA1 := gbnext (w0 := w) bgo hb1; have hs1 := hA1.size; clear hb1))
    exact bodyPost_ret (v := .tuple #[.agg #[.int .i64 2, .bool false, .bool false, .string ⟨#[]⟩, .int .i64 0], .bool true]) (by simp only [results, Tryz.results87]; go_simp) rfl ⟨rfl, bgo⟩
  · by_cases h2 : x = [105, 110, 102, 105, 110, 105, 116, 121]
    · have hi : infB x = true := by rw [h2]; rfl
      rw [hi]
      subst h2
      simp only [if_true, Bool.true_or]
      go_enter Tryz.func87, Tryz.ntmps87
      go_wp2_with (first | (go_at_call 142; refine (c31 _).mono ?_; rintro x w1 ⟨rfl, hb1⟩; obtain ⟨hc1, hf1⟩ := gbcell hb1; have hz1_0 : w.heap.size < w1.heap.size := glt_below hb1 ltg; have hl1_0 := Nat.le_of_lt hz1_0; have hA1 := gbnext (w0 := w) bgo hb1; have hs1 := hA1.size; clear hb1))
      exact bodyPost_ret (v := .tuple #[.agg #[.int .i64 2, .bool false, .bool false, .string ⟨#[]⟩, .int .i64 0], .bool true]) (by simp only [results, Tryz.results87]; go_simp) rfl ⟨rfl, bgo⟩
    · have hi : infB x = false := by unfold infB; rw [beq_eq_false_iff_ne.2 h1, beq_eq_false_iff_ne.2 h2]; rfl
      rw [hi]
      have b1 : (x == [105, 110, 102]) = false := beq_eq_false_iff_ne.2 h1
      have b2 : (x == [105, 110, 102, 105, 110, 105, 116, 121]) = false := beq_eq_false_iff_ne.2 h2
      simp only [Bool.false_eq_true, if_false, Bool.false_or]
      have c28 : ∀ w, Calls Tryz.prog 73 #[.string (B x), .string ⟨#[115]⟩] w fun e w' => e = .returned (.tuple #[.string (B (Lib.trimPrefix x [115])), .bool (Lib.hasPrefix x [115])]) ∧ w' = w := fun w => cutp_any x [115] w
      have hl1 := trimPre_le x [115]
      have c28n : ∀ w, Calls Tryz.prog 73 #[.string (B (Lib.trimPrefix x [115])), .string ⟨#[110, 97, 110]⟩] w fun e w' => e = .returned (.tuple #[.string (B (nanR x)), .bool (Lib.hasPrefix (Lib.trimPrefix x [115]) [110, 97, 110])]) ∧ w' = w := fun w => cutp_any (Lib.trimPrefix x [115]) [110, 97, 110] w
      have hl2 := trimPre_le (Lib.trimPrefix x [115]) [110, 97, 110]
      change (nanR x).length ≤ _ at hl2
      unfold nanB
      generalize Lib.hasPrefix (Lib.trimPrefix x [115]) [110, 97, 110] = z at *
      generalize Lib.hasPrefix x [115] = g at *
      generalize Lib.trimPrefix x [115] = T at *
      have c32 := fun w => payload_any (nanR x) w (by omega)
      generalize nanR x = N at *
      have hpl : (paD N).length ≤ N.length := by
        unfold paD; split
        · exact Nat.le_trans (dgs_le _) (trimPre_le _ _)
        · simp
      have c30 := fun w => signif_any (paD N) w (by omega)
      generalize paD N = P at *
      generalize paB N = y at *
      cases z
      · simp only [Bool.false_and, Bool.false_eq_true, if_false]
        go_enter Tryz.func87, Tryz.ntmps87
        go_wp2_with (first | (go_at_call 142; refine (c31 _).mono ?_; rintro x w1 ⟨rfl, hb1⟩; obtain ⟨hc1, hf1⟩ := gbcell hb1; have hz1_0 : w.heap.size < w1.heap.size := glt_below hb1 ltg; have hl1_0 := Nat.le_of_lt hz1_0; have hA1 := gbnext (w0 := w) bgo hb1; have hs1 := hA1.size; clear hb1) | (go_at_call 73; refine (c28 _).mono ?_; rintro x w2 ⟨rfl, rfl⟩; clear c28))
        go_wp2_with (first | (go_at_call 73; refine (c28n _).mono ?_; rintro x w2 ⟨rfl, rfl⟩; clear c28n))
        exact bodyPost_ret (v := .tuple #[.agg #[.int .i64 0, .bool false, .bool false, .string ⟨#[]⟩, .int .i64 0], .bool false]) (by simp only [results, Tryz.results87]; go_simp) rfl ⟨rfl, bgo⟩
      · cases y
        · simp only [Bool.true_and, Bool.false_eq_true, if_false]
          go_enter Tryz.func87, Tryz.ntmps87
          go_wp2_with (first | (go_at_call 142; refine (c31 _).mono ?_; rintro x w1 ⟨rfl, hb1⟩; obtain ⟨hc1, hf1⟩ := gbcell hb1; have hz1_0 : w.heap.size < w1.heap.size := glt_below hb1 ltg; have hl1_0 := Nat.le_of_lt hz1_0; have hA1 := gbnext (w0 := w) bgo hb1; have hs1 := hA1.size; clear hb1) | (go_at_call 73; refine (c28 _).mono ?_; rintro x w2 ⟨rfl, rfl⟩; clear c28))
          go_wp2_with (first | (go_at_call 73; refine (c28n _).mono ?_; rintro x w2 ⟨rfl, rfl⟩; clear c28n) | (go_at_call 143; refine (c32 _).mono ?_; rintro x w3 ⟨rfl, hb3⟩; obtain ⟨hc3, hf3⟩ := gbcell hb3; have hz3_0 : w.heap.size < w3.heap.size := glt_below hb3 ltg; have hl3_0 := Nat.le_of_lt hz3_0; have hA3 := gbnext (w0 := w) bgo hb3; have hs3 := hA3.size; clear hb3))
          exact bodyPost_ret (v := .tuple #[.agg #[.int .i64 0, .bool false, .bool false, .string ⟨#[]⟩, .int .i64 0], .bool false]) (by simp only [results, Tryz.results87]; go_simp) rfl ⟨rfl, bgo⟩
        · simp only [Bool.true_and, if_true]
          go_enter Tryz.func87, Tryz.ntmps87
          go_wp2_with (first | (go_at_call 142; refine (c31 _).mono ?_; rintro x w1 ⟨rfl, hb1⟩; obtain ⟨hc1, hf1⟩ := gbcell hb1; have hz1_0 : w.heap.size < w1.heap.size := glt_below hb1 ltg; have hl1_0 := Nat.le_of_lt hz1_0; have hA1 := gbnext (w0 := w) bgo hb1; have hs1 := hA1.size; clear hb1) | (go_at_call 73; refine (c28 _).mono ?_; rintro x w2 ⟨rfl, rfl⟩; clear c28))
          go_wp2_with (first | (go_at_call 73; refine (c28n _).mono ?_; rintro x w2 ⟨rfl, rfl⟩; clear c28n) | (go_at_call 143; refine (c32 _).mono ?_; rintro x w3 ⟨rfl, hb3⟩; obtain ⟨hc3, hf3⟩ := gbcell hb3; have hz3_0 : w.heap.size < w3.heap.size := glt_below hb3 ltg; have hl3_0 := Nat.le_of_lt hz3_0; have hA3 := gbnext (w0 := w) bgo hb3; have hs3 := hA3.size; clear hb3) | (go_at_call 141; refine (c30 _).mono ?_; rintro x w4 ⟨rfl, hb4⟩; obtain ⟨hc4, hf4⟩ := gbcell hb4; have hz4_0 : w.heap.size < w4.heap.size := glt_below hb4 ltg; have hl4_0 := Nat.le_of_lt hz4_0; have hA4 := gbnext (w0 := w) bgo hb4; have hs4 := hA4.size; clear hb4))
          exact bodyPost_ret (v := .tuple #[.agg #[.int .i64 3, .bool false, .bool g, .string (B (bar P)), .int .i64 0], .bool true]) (by simp only [results, Tryz.results87]; go_simp) rfl ⟨rfl, bgo⟩
end Go.Proofs.YtplocajjfoiklaaGreatDoor

namespace Go.Proofs.YtplocajjfoiklaaGreatDoor
open Go.RowKit

/-- a number's parts -/
structure Prt where
  cls : Int
  sg : Bool
  sn : Bool
  dig : List UInt8
  ex : Int
def Prt.v (p : Prt) : Value := PV p.cls p.sg p.sn p.dig p.ex
def Prt.zero : Prt := ⟨0, false, false, [], 0⟩
/-- the parts of a text whose sign z is gone -/
def bodP (z : Bool) (r : List UInt8) : Option Prt :=
  if finB r then some ⟨1, z, false, finD r, finE r⟩
  else if infB (sml r) then some ⟨2, z, false, [], 0⟩
  else if nanB (sml r) then some ⟨3, z, Lib.hasPrefix (sml r) [115], bar (paD (nanR (sml r))), 0⟩
  else none
def cutP (l : List UInt8) : Option Prt := if 4000 < l.length then none else bodP (gsgB l) (sgR l)
def cutE (l : List UInt8) : Int := if 4000 < l.length then 4 else if (cutP l).isSome then 0 else 2
def cutV (l : List UInt8) : Prt := (cutP l).getD Prt.zero
set_option maxHeartbeats 2000000 in
theorem cut_long (l : List UInt8) (w : World) (hs : l.length < 10001) (hl : 4000 < l.length) :
    Calls Tryz.prog 36 #[.string (B l)] w fun e w' => e = .returned (.tuple #[PV 0 false false [] 0, .int .i64 4]) ∧ Below w.heap.size w w' := by
  have hsz := B_size l
  have hi : (4000 : Int) < l.length := by omega
  unfold PV
  go_enter Tryz.func36, Tryz.ntmps36
  go_wp2
  exact bodyPost_ret (v := .tuple #[.agg #[.int .i64 0, .bool false, .bool false, .string ⟨#[]⟩, .int .i64 0], .int .i64 4]) (by simp only [results, Tryz.results36]; go_simp) rfl ⟨rfl, bgo⟩
set_option maxHeartbeats 2000000 in
theorem cut_fin (l : List UInt8) (w : World) (hl : l.length ≤ 4000) (hf : finB (sgR l) = true) :
    Calls Tryz.prog 36 #[.string (B l)] w fun e w' => e = .returned (.tuple #[PV 1 (gsgB l) false (finD (sgR l)) (finE (sgR l)), .int .i64 0]) ∧ Below w.heap.size w w' := by
  have hsz := B_size l
  have hi : (l.length : Int) ≤ 4000 := by omega
  have hsl := sgR_le l
  have c16 := fun w => lsign_any l w (by omega)
  have c17 := fun w => fin_eq (sgR l) w (by omega)
  rw [hf] at c17
  simp only [if_true] at c17
  unfold PV at c17 ⊢
  generalize finD (sgR l) = D at *
  generalize finE (sgR l) = E at *
  generalize gsgB l = z at *
  generalize sgR l = R at *
  have hsm : ∀ (W : World) (b i : Nat) (v : Value), (W.setCell ⟨b, i, none⟩ v).cell? ⟨b, i, none⟩ = (W.cell? ⟨b, i, none⟩).map fun _ => v := fun W b i v => gcell_set_map W b i v
  go_enter Tryz.func36, Tryz.ntmps36
  go_wp2_with (first | (go_at_call 85; refine (c16 _).mono ?_; rintro x w1 ⟨rfl, hb1⟩; obtain ⟨hc1, hf1⟩ := gbcell hb1; have hz1_0 : w.heap.size < w1.heap.size := glt_below hb1 ltg; have hl1_0 := Nat.le_of_lt hz1_0; have hA1 := gbnext (w0 := w) bgo hb1; have hs1 := hA1.size; clear hb1) | (go_at_call 86; refine (c17 _).mono ?_; rintro x w2 ⟨rfl, hb2⟩; obtain ⟨hc2, hf2⟩ := gbcell hb2; have hz2_0 : w.heap.size < w2.heap.size := glt_below hb2 ltg; have hl2_0 := Nat.le_of_lt hz2_0; have hA2 := gbnext (w0 := w) bgo hb2; have hs2 := hA2.size; clear hb2))
  exact bodyPost_ret (v := .tuple #[.agg #[.int .i64 1, .bool z, .bool false, .string (B D), .int .i64 E], .int .i64 0]) (by simp only [results, Tryz.results36]; go_simp) rfl ⟨rfl, bgo⟩
set_option maxHeartbeats 2000000 in
theorem cut_wo (l : List UInt8) (w : World) (hl : l.length ≤ 4000) (hf : finB (sgR l) = false) (C : Int) (G : Bool) (D : List UInt8) (hv : woV (sgR l) = PV C false G D 0) (hb : woB (sgR l) = true) :
    Calls Tryz.prog 36 #[.string (B l)] w fun e w' => e = .returned (.tuple #[PV C (gsgB l) G D 0, .int .i64 0]) ∧ Below w.heap.size w w' := by
  have hsz := B_size l
  have hi : (l.length : Int) ≤ 4000 := by omega
  have hsl := sgR_le l
  have c16 := fun w => lsign_any l w (by omega)
  have c17 := fun w => fin_eq (sgR l) w (by omega)
  have c18 := fun w => gword_any (sgR l) w (by omega)
  rw [hf] at c17
  rw [hv, hb] at c18
  simp only [Bool.false_eq_true, if_false] at c17
  unfold PV at c17 c18 ⊢
  clear hv hb hf
  generalize gsgB l = z at *
  generalize sgR l = R at *
  have hsm := gcell_set_map
  go_enter Tryz.func36, Tryz.ntmps36
  go_wp2_with (first | (go_at_call 85; refine (c16 _).mono ?_; rintro x w1 ⟨rfl, hb1⟩; obtain ⟨hc1, hf1⟩ := gbcell hb1; have hz1_0 : w.heap.size < w1.heap.size := glt_below hb1 ltg; have hl1_0 := Nat.le_of_lt hz1_0; have hA1 := gbnext (w0 := w) bgo hb1; have hs1 := hA1.size; clear hb1) | (go_at_call 86; refine (c17 _).mono ?_; rintro x w2 ⟨rfl, hb2⟩; obtain ⟨hc2, hf2⟩ := gbcell hb2; have hz2_0 : w.heap.size < w2.heap.size := glt_below hb2 ltg; have hl2_0 := Nat.le_of_lt hz2_0; have hA2 := gbnext (w0 := w) bgo hb2; have hs2 := hA2.size; clear hb2) | (go_at_call 87; refine (c18 _).mono ?_; rintro x w3 ⟨rfl, hb3⟩; obtain ⟨hc3, hf3⟩ := gbcell hb3; have hz3_0 : w.heap.size < w3.heap.size := glt_below hb3 ltg; have hl3_0 := Nat.le_of_lt hz3_0; have hz3_1 : w2.heap.size < w3.heap.size := glt_below hb3 ltg; have hl3_1 := Nat.le_of_lt hz3_1; have hA3 := gbnext (w0 := w) bgo hb3; have hs3 := hA3.size; clear hb3))
  exact bodyPost_ret (v := .tuple #[.agg #[.int .i64 C, .bool z, .bool G, .string (B D), .int .i64 0], .int .i64 0]) (by simp only [results, Tryz.results36]; go_simp) rfl ⟨rfl, bgo⟩
set_option maxHeartbeats 2000000 in
theorem cut_no (l : List UInt8) (w : World) (hl : l.length ≤ 4000) (hf : finB (sgR l) = false) (hv : woV (sgR l) = PV 0 false false [] 0) (hb : woB (sgR l) = false) :
    Calls Tryz.prog 36 #[.string (B l)] w fun e w' => e = .returned (.tuple #[PV 0 false false [] 0, .int .i64 2]) ∧ Below w.heap.size w w' := by
  have hsz := B_size l
  have hi : (l.length : Int) ≤ 4000 := by omega
  have hsl := sgR_le l
  have c16 := fun w => lsign_any l w (by omega)
  have c17 := fun w => fin_eq (sgR l) w (by omega)
  have c18 := fun w => gword_any (sgR l) w (by omega)
  rw [hf] at c17
  rw [hv, hb] at c18
  simp only [Bool.false_eq_true, if_false] at c17
  unfold PV at c17 c18 ⊢
  clear hv hb hf
  generalize gsgB l = z at *
  generalize sgR l = R at *
  have hsm := gcell_set_map
  go_enter Tryz.func36, Tryz.ntmps36
  go_wp2_with (first | (go_at_call 85; refine (c16 _).mono ?_; rintro x w1 ⟨rfl, hb1⟩; obtain ⟨hc1, hf1⟩ := gbcell hb1; have hz1_0 : w.heap.size < w1.heap.size := glt_below hb1 ltg; have hl1_0 := Nat.le_of_lt hz1_0; have hA1 := gbnext (w0 := w) bgo hb1; have hs1 := hA1.size; clear hb1) | (go_at_call 86; refine (c17 _).mono ?_; rintro x w2 ⟨rfl, hb2⟩; obtain ⟨hc2, hf2⟩ := gbcell hb2; have hz2_0 : w.heap.size < w2.heap.size := glt_below hb2 ltg; have hl2_0 := Nat.le_of_lt hz2_0; have hA2 := gbnext (w0 := w) bgo hb2; have hs2 := hA2.size; clear hb2) | (go_at_call 87; refine (c18 _).mono ?_; rintro x w3 ⟨rfl, hb3⟩; obtain ⟨hc3, hf3⟩ := gbcell hb3; have hz3_0 : w.heap.size < w3.heap.size := glt_below hb3 ltg; have hl3_0 := Nat.le_of_lt hz3_0; have hz3_1 : w2.heap.size < w3.heap.size := glt_below hb3 ltg; have hl3_1 := Nat.le_of_lt hz3_1; have hA3 := gbnext (w0 := w) bgo hb3; have hs3 := hA3.size; clear hb3))
  exact bodyPost_ret (v := .tuple #[.agg #[.int .i64 0, .bool false, .bool false, .string ⟨#[]⟩, .int .i64 0], .int .i64 2]) (by simp only [results, Tryz.results36]; go_simp) rfl ⟨rfl, bgo⟩
theorem cut_any (l : List UInt8) (w : World) (hs : l.length < 10001) :
    Calls Tryz.prog 36 #[.string (B l)] w fun e w' => e = .returned (.tuple #[(cutV l).v, .int .i64 (cutE l)]) ∧ Below w.heap.size w w' := by
  unfold cutV cutE cutP
  by_cases hl : 4000 < l.length
  · rw [if_pos hl, if_pos hl]
    exact cut_long l w hs hl
  · rw [if_neg hl, if_neg hl]
    unfold bodP
    by_cases hf : finB (sgR l) = true
    · rw [if_pos hf]
      exact cut_fin l w (by omega) hf
    · rw [if_neg hf]
      have hf' : finB (sgR l) = false := by simpa using hf
      by_cases h1 : infB (sml (sgR l)) = true
      · rw [if_pos h1]
        exact cut_wo l w (by omega) hf' 2 false [] (by unfold woV; rw [if_pos h1]) (by unfold woB; rw [h1]; rfl)
      · rw [if_neg h1]
        by_cases h2 : nanB (sml (sgR l)) = true
        · rw [if_pos h2]
          exact cut_wo l w (by omega) hf' 3 _ _ (by unfold woV; rw [if_neg h1, if_pos h2]; rfl) (by unfold woB; rw [h2, Bool.or_true])
        · rw [if_neg h2]
          exact cut_no l w (by omega) hf' (by unfold woV; rw [if_neg h1, if_neg h2]) (by unfold woB; rw [show infB (sml (sgR l)) = false by simpa using h1, show nanB (sml (sgR l)) = false by simpa using h2]; rfl)
end Go.Proofs.YtplocajjfoiklaaGreatDoor

namespace Go.Proofs.YtplocajjfoiklaaGreatDoor
open Go.RowKit

theorem u8_all {p : UInt8 → Bool} (h : ∀ v, v < 256 → p (UInt8.ofNat v) = true) (y : UInt8) : p y = true := by
  have := h y.toNat y.toNat_lt
  rwa [UInt8.ofNat_toNat] at this
/-- a hexadecimal digit, great or small -/
def hxc (y : UInt8) : Bool := hxB (sm y)
def hxAll : List UInt8 := [48, 49, 50, 51, 52, 53, 54, 55, 56, 57, 97, 98, 99, 100, 101, 102, 65, 66, 67, 68, 69, 70]
theorem hxc_mem (y : UInt8) : hxAll.contains y = hxc y := by
  have := u8_all (p := fun y => hxAll.contains y == hxc y) (by decide +kernel) y
  simpa using this
theorem dg_sm (y : UInt8) : dg (sm y) = dg y := by
  have := u8_all (p := fun y => dg (sm y) == dg y) (by decide +kernel) y
  simpa using this
theorem sm_dg {y : UInt8} (h : dg y = true) : sm y = y := by
  have := u8_all (p := fun y => !dg y || sm y == y) (by decide +kernel) y
  simpa [h] using this
theorem sm_120 (y : UInt8) : sm y = 120 ↔ y = 120 ∨ y = 88 := by
  have := u8_all (p := fun y => decide (sm y = 120) == decide (y = 120 ∨ y = 88)) (by decide +kernel) y
  exact decide_eq_decide.1 (eq_of_beq this)
theorem sm_112 (y : UInt8) : sm y = 112 ↔ y = 112 ∨ y = 80 := by
  have := u8_all (p := fun y => decide (sm y = 112) == decide (y = 112 ∨ y = 80)) (by decide +kernel) y
  exact decide_eq_decide.1 (eq_of_beq this)
theorem sm_46 (y : UInt8) : sm y = 46 ↔ y = 46 := by
  have := u8_all (p := fun y => decide (sm y = 46) == decide (y = 46)) (by decide +kernel) y
  exact decide_eq_decide.1 (eq_of_beq this)
theorem sm_48 (y : UInt8) : sm y = 48 ↔ y = 48 := by
  have := u8_all (p := fun y => decide (sm y = 48) == decide (y = 48)) (by decide +kernel) y
  exact decide_eq_decide.1 (eq_of_beq this)
theorem sml_cons (y : UInt8) (z : List UInt8) : sml (y :: z) = sm y :: sml z := rfl
theorem sml_nil : sml [] = [] := rfl
theorem sml_app (a b : List UInt8) : sml (a ++ b) = sml a ++ sml b := by unfold sml; exact List.map_append
theorem gsgB_sml (l : List UInt8) : gsgB (sml l) = gsgB l := by
  cases l with
  | nil => rfl
  | cons c r =>
    show decide (((sm c).toNat : Int) = 45) = decide ((c.toNat : Int) = 45)
    rw [decide_eq_decide, sm_nat]
    split <;> omega
theorem sgR_sml (l : List UInt8) : sgR (sml l) = sml (sgR l) := by
  cases l with
  | nil => rfl
  | cons c r =>
    rw [sml_cons]
    have e := sm_nat c
    show (if ((sm c).toNat : Int) = 45 ∨ ((sm c).toNat : Int) = 43 then sml r else sm c :: sml r) = sml (if (c.toNat : Int) = 45 ∨ (c.toNat : Int) = 43 then r else c :: r)
    by_cases h : (c.toNat : Int) = 45 ∨ (c.toNat : Int) = 43
    · rw [if_pos h, if_pos (by rw [e, if_neg (by omega)]; exact h)]
    · rw [if_neg h, if_neg (by rw [e]; split <;> omega)]
      rfl
theorem sml_tw (l : List UInt8) : (sml l).takeWhile hxB = sml (l.takeWhile hxc) := by
  unfold sml
  rw [List.takeWhile_map]
  rfl
theorem sml_dw (l : List UInt8) : (sml l).dropWhile hxB = sml (l.dropWhile hxc) := by
  unfold sml
  rw [List.dropWhile_map]
  rfl
theorem isd_sml (l : List UInt8) : isd (sml l) = isd l := by
  unfold isd sml
  rw [List.all_map]
  have : (dg ∘ sm) = dg := funext dg_sm
  rw [this]
  cases l <;> rfl
theorem sml_dig {l : List UInt8} (h : l.all dg = true) : sml l = l := by
  induction l with
  | nil => rfl
  | cons c r ih =>
    rw [List.all_cons, Bool.and_eq_true] at h
    rw [sml_cons, ih h.2, sm_dg h.1]
theorem exS_sml {z : List UInt8} (h : isd (sgR z) = true) : exS (sml z) = exS z := by
  unfold exS
  rw [gsgB_sml, sgR_sml, sml_dig (isd_all h)]
/-- the exponent behind a p -/
def hpx : List UInt8 → Option Int
  | [] => none
  | y :: z => if (y = 112 ∨ y = 80) ∧ isd (sgR z) = true then some (clampE (exS z)) else none
theorem finB_0e (z : List UInt8) : finB (48 :: 101 :: z) = isd (sgR z) ∧ finE (48 :: 101 :: z) = (if isd (sgR z) then clampE (exS z) else 0) := by
  have e1 : dgs (48 :: 101 :: z) = [48] := rfl
  have e2 : rst (48 :: 101 :: z) = 101 :: z := rfl
  have e3 : Lib.hasPrefix (101 :: z) [46] = false := rfl
  have e4 : frac (48 :: 101 :: z) = [] := by unfold frac; rw [e2, e3]; rfl
  have e5 : behind (48 :: 101 :: z) = 101 :: z := by unfold behind; rw [e2, e3]; rfl
  have e6 : exB (101 :: z) = isd (sgR z) := by
    show (true && isd (sgR z)) = _
    rw [Bool.true_and]
  refine ⟨?_, ?_⟩
  · unfold finB
    rw [e1, e4, e5, e6]
    simp
  · unfold finE
    rw [e5, e4]
    show clampE ((if exB (101 :: z) = true then exS z else 0) - (([] : List UInt8).length : Int)) = _
    rw [e6]
    by_cases h : isd (sgR z) = true
    · rw [if_pos h, if_pos h]
      simp
    · rw [if_neg h, if_neg h]
      rfl
theorem bodP_0 (g : Bool) {y : UInt8} {z : List UInt8} (h : finB (48 :: y :: z) = false) : bodP g (48 :: y :: z) = none := by
  unfold bodP
  rw [h]
  have e1 : infB (sml (48 :: y :: z)) = false := rfl
  have e2 : nanB (sml (48 :: y :: z)) = false := rfl
  rw [e1, e2]
  rfl
theorem cut_0e {z : List UInt8} (h : z.length ≤ 3998) : cutP (48 :: 101 :: z) = if isd (sgR z) then some ⟨1, false, false, finD (48 :: 101 :: z), clampE (exS z)⟩ else none := by
  unfold cutP
  rw [if_neg (by simp only [List.length_cons]; omega)]
  have e1 : gsgB (48 :: 101 :: z) = false := rfl
  have e2 : sgR (48 :: 101 :: z) = 48 :: 101 :: z := rfl
  obtain ⟨f1, f2⟩ := finB_0e z
  rw [e1, e2]
  by_cases hi : isd (sgR z) = true
  · rw [if_pos hi]
    unfold bodP
    rw [f1, hi, if_pos rfl, f2, if_pos hi]
  · rw [if_neg hi]
    exact bodP_0 _ (by rw [f1]; simpa using hi)
/-- what opens with 0x is no decimal text -/
theorem cut_0x {l a : List UInt8} (ht : sgR (sml l) = 48 :: 120 :: a) : cutP l = none := by
  unfold cutP
  by_cases hl : 4000 < l.length
  · rw [if_pos hl]
  rw [if_neg hl]
  rw [sgR_sml] at ht
  cases hs : sgR l with
  | nil => rw [hs] at ht; cases ht
  | cons c r =>
    rw [hs, sml_cons] at ht
    cases r with
    | nil => simp [sml_nil] at ht
    | cons y z =>
      rw [sml_cons] at ht
      injection ht with h1 h2
      injection h2 with h2 h3
      rw [sm_48] at h1
      rw [sm_120] at h2
      subst h1
      refine bodP_0 _ ?_
      have d1 : dg y = false := by rcases h2 with h2 | h2 <;> rw [h2] <;> rfl
      have e1 : rst (48 :: y :: z) = y :: z := by
        unfold rst
        rw [List.dropWhile_cons_of_pos rfl, List.dropWhile_cons_of_neg (by rw [d1]; decide)]
      have e3 : Lib.hasPrefix (y :: z) [46] = false := by rcases h2 with h2 | h2 <;> rw [h2] <;> rfl
      have e5 : behind (48 :: y :: z) = y :: z := by unfold behind; rw [e1, e3]; rfl
      have e6 : exB (y :: z) = false := by
        rcases h2 with h2 | h2 <;> rw [h2] <;> rfl
      unfold finB
      rw [e5, e6]
      rfl
/-- behind the point: the digits, and what is left -/
def pxF (r : List UInt8) : List UInt8 := if Lib.hasPrefix r [46] then (Lib.trimPrefix r [46]).takeWhile hxc else []
def pxR (r : List UInt8) : List UInt8 := if Lib.hasPrefix r [46] then (Lib.trimPrefix r [46]).dropWhile hxc else r
theorem pre46 (y : UInt8) (z : List UInt8) : Lib.hasPrefix (y :: z) [46] = decide (y = 46) := by
  unfold Lib.hasPrefix
  by_cases h : y = 46
  · rw [h]; rfl
  · rw [decide_eq_false h]
    simp [List.isPrefixOf]
    exact fun e => h e.symm
theorem trim46 (z : List UInt8) : Lib.trimPrefix (46 :: z) [46] = z := by
  unfold Lib.trimPrefix
  rw [pre46, decide_eq_true rfl]
  rfl
end Go.Proofs.YtplocajjfoiklaaGreatDoor
