/-
  Texts that the proof leans on.
-/
import Derived.Test.YtpemdcnneabbfaaGreatDoorJ17
set_option linter.unusedVariables false
set_option linter.unusedSimpArgs false
set_option linter.unusedSectionVars false
set_option maxRecDepth 20000
namespace Go.Proofs.YtpemdcnneabbfaaGreatDoor
open Go.RowKit
section
def nanT (g : Bool) (d : List UInt8) : List UInt8 := (if g then [115] else []) ++ ([110, 97, 110] ++ (if d = [] then [] else 40 :: (d ++ [41])))
def finT (d : List UInt8) (e : Int) : List UInt8 := dgT d ++ exT e
def bodT (c : Int) (g : Bool) (d : List UInt8) (e : Int) : List UInt8 := if c = 2 then [105, 110, 102] else if c = 3 then nanT g d else finT d e
def texT (c : Int) (s g : Bool) (d : List UInt8) (e : Int) : List UInt8 := (if s then [45] else []) ++ bodT c g d e
theorem nanT_pos (g : Bool) (d : List UInt8) : 0 < (nanT g d).length := by unfold nanT; simp only [List.length_append, List.length_cons]; omega
theorem finT_pos (d : List UInt8) (e : Int) : 0 < (finT d e).length := by
  unfold finT dgT
  rw [List.length_append]
  split
  · simp; omega
  · rename_i h
    have : 0 < d.length := List.length_pos_iff.2 h
    omega
theorem appNaN_any (Bs : Nat) (c : Int) (s g : Bool) (d : List UInt8) (e : Int) (v : Value) (l : List UInt8) (w : World) (hl : l.length < 100000) (hd : d.length < 100000) (hown : w.ownsRow Bs 5 1 v l.length (Lib.byteCells l)) (hb : Bs ≤ w.heap.size) :
    Calls Tryz.prog 116 #[v, PV c s g d e] w fun x w' => ∃ v', x = .returned v' ∧ w'.ownsRow Bs 5 1 v' (l ++ nanT g d).length (Lib.byteCells (l ++ nanT g d)) ∧ Below Bs w w' := by
  cases g
  · cases d with
    | nil => exact appNaN_fn Bs c s e v l w hl hown hb
    | cons x xs => exact appNaN_fc Bs c s x xs e v l w hl hown hb hd
  · cases d with
    | nil => exact appNaN_tn Bs c s e v l w hl hown hb
    | cons x xs => exact appNaN_tc Bs c s x xs e v l w hl hown hb hd
theorem appFin_any (Bs : Nat) (c : Int) (s g : Bool) (d : List UInt8) (e : Int) (v : Value) (l : List UInt8) (w : World) (hl : l.length < 100000) (hd : d.length < 100000) (he : -9223372036854775808 ≤ e ∧ e ≤ 9223372036854775807) (hown : w.ownsRow Bs 5 1 v l.length (Lib.byteCells l)) (hb : Bs ≤ w.heap.size) (htab : Lib.TabBelow Tryz.prog Bs w "internal/strconv.uint64pow10" .u64 Lib.pow10Tab) :
    Calls Tryz.prog 117 #[v, PV c s g d e] w fun x w' => ∃ v', x = .returned v' ∧ w'.ownsRow Bs 5 1 v' (l ++ finT d e).length (Lib.byteCells (l ++ finT d e)) ∧ Below Bs w w' := by
  by_cases h0 : e = 0
  · subst h0
    cases d with
    | nil => exact appFin_n0 Bs c s g v l w hl hown hb
    | cons x xs =>
      have : finT (x :: xs) 0 = x :: xs := by unfold finT dgT exT; simp
      rw [this]
      exact appFin_c0 Bs c s g x xs v l w hl hown hb hd
  · have h1 : (e != 0) = true := by simpa using h0
    have e1 : exT e = 101 :: Lib.itoa e := if_neg h0
    cases d with
    | nil =>
      have := appFin_ne Bs c s g e v l w hl hown hb h1 he htab
      unfold finT; rw [e1]; exact this
    | cons x xs =>
      have := appFin_ce Bs c s g x xs e v l w hl hown hb hd h1 he htab
      unfold finT; rw [e1]; exact this
theorem own_str {Bs : Nat} {v : Value} {l : List UInt8} {W : World} (h : W.ownsRow Bs 5 1 v l.length (Lib.byteCells l)) (hp : 0 < l.length) : (convert 48 9 v).run Tryz.prog W = .ok (.string (B l)) W := by
  obtain ⟨g, cap, rfl, _, _⟩ := h.form hp
  refine run_convert_bytes_back W 48 9 5 ⟨g, 0, none⟩ cap l Tryz.underlying48 Tryz.underlying5 Tryz.underlying9 fun j hj => ?_
  rw [show (⟨g, 0, none⟩ : Addr).add j = ⟨g, j, none⟩ by unfold Addr.add; split <;> simp_all]
  rw [h.cellAt j (by omega)]
  simp [Lib.byteCells, hj]
set_option maxHeartbeats 2000000 in
theorem text_t2 (g : Bool) (d : List UInt8) (e : Int) (w : World) (hd : d.length < 100000) :
    Calls Tryz.prog 84 #[PV 2 true g d e] w fun x w' => x = .returned (.string (B ([45] ++ [105, 110, 102]))) ∧ Below w.heap.size w w' := by
  have htl := B_toList
  obtain ⟨i0, hi, hz0, hz1, hz2⟩ := info_parts Tryz.info5
  have A0 : Ap w.heap.size w.heap.size (PC 2 true g d e) (.slice none 0 0) [] w (w.alloc (.cells (PC 2 true g d e) 57)) := Ap.start (World.ownsRow_nil _ _ _ _) (Nat.le_refl _)
  unfold PV
  go_enter Tryz.func84, Tryz.ntmps84
  go_wp2_with (first | (at_builtin; refine wpList_append_lies _ rfl (.tmp 6) (.tmp 7) 48 rfl w.heap.size 5 i0 (.int .u8 0) 1 1 Tryz.underlying48 hi hz0 hz1 hz2 rfl (by decide) (.slice none 0 0) (([] : List UInt8)).length (Lib.byteCells (([] : List UInt8))) rfl (A0.alloc (.cells #[.int .u8 45] 5)).own ⟨w.heap.size + 1, 0, none⟩ 1 1 [.int .u8 45] rfl rfl (news1 _ _ _ (by simp)) (one1 _) (by decide) (by unfold maxLen; decide) (by decide) (A0.alloc (.cells #[.int .u8 45] 5)).bs _ rfl ?_; intro g1 cap1 w1 hown hgrow hat hlt; have A1 := (A0.alloc (.cells #[.int .u8 45] 5)).app (m := [45]) hgrow hown (by simp only [List.length_append, List.length_cons, List.length_nil]; try omega) (bc_one _ 45); clear hown hgrow hat hlt; generalize (Value.slice (some ⟨g1, 0, none⟩) ((([] : List UInt8)).length + 1) cap1) = v1 at *; have k1_0 : w1.cell? ⟨w.heap.size, 0, none⟩ = some (.int .i64 2) := A1.cell 0; have k1_1 : w1.cell? ⟨w.heap.size, 1, none⟩ = some (.bool true) := A1.cell 1; have k1_2 : w1.cell? ⟨w.heap.size, 2, none⟩ = some (.bool g) := A1.cell 2; have k1_3 : w1.cell? ⟨w.heap.size, 3, none⟩ = some (.string (B d)) := A1.cell 3; have k1_4 : w1.cell? ⟨w.heap.size, 4, none⟩ = some (.int .i64 e) := A1.cell 4) | (at_builtin; refine Lib.wpList_append_own_string _ rfl (.tmp 16) (.const (.string ⟨#[105, 110, 102]⟩)) 48 9 rfl w.heap.size 5 i0 Tryz.underlying48 Tryz.underlying9 hi hz0 hz1 hz2 v1 (([] ++ [45])).length (Lib.byteCells (([] ++ [45]))) rfl A1.own (B [105, 110, 102]) rfl (by rw [B_size]; unfold maxLen; simp only [List.length_append, List.length_cons, List.length_nil]; omega) (by rw [B_size]; simp only [List.length_append, List.length_cons, List.length_nil]; omega) A1.bs ?_; intro v2 w2 hown hgrow hq; have A2 := A1.app (m := [105, 110, 102]) hgrow hown (by simp only [B_size, List.length_append, List.length_cons, List.length_nil]; try omega) (bc_str _ _); clear hown hgrow hq; have hcv := own_str A2.own (by simp)))
  go_ret
  exact ⟨rfl, A2.bel⟩
set_option maxHeartbeats 2000000 in
theorem text_t3 (g : Bool) (d : List UInt8) (e : Int) (w : World) (hd : d.length < 100000) :
    Calls Tryz.prog 84 #[PV 3 true g d e] w fun x w' => x = .returned (.string (B ([45] ++ nanT g d))) ∧ Below w.heap.size w w' := by
  have htl := B_toList
  obtain ⟨i0, hi, hz0, hz1, hz2⟩ := info_parts Tryz.info5
  have A0 : Ap w.heap.size w.heap.size (PC 3 true g d e) (.slice none 0 0) [] w (w.alloc (.cells (PC 3 true g d e) 57)) := Ap.start (World.ownsRow_nil _ _ _ _) (Nat.le_refl _)
  unfold PV
  go_enter Tryz.func84, Tryz.ntmps84
  go_wp2_with (first | (at_builtin; refine wpList_append_lies _ rfl (.tmp 6) (.tmp 7) 48 rfl w.heap.size 5 i0 (.int .u8 0) 1 1 Tryz.underlying48 hi hz0 hz1 hz2 rfl (by decide) (.slice none 0 0) (([] : List UInt8)).length (Lib.byteCells (([] : List UInt8))) rfl (A0.alloc (.cells #[.int .u8 45] 5)).own ⟨w.heap.size + 1, 0, none⟩ 1 1 [.int .u8 45] rfl rfl (news1 _ _ _ (by simp)) (one1 _) (by decide) (by unfold maxLen; decide) (by decide) (A0.alloc (.cells #[.int .u8 45] 5)).bs _ rfl ?_; intro g1 cap1 w1 hown hgrow hat hlt; have A1 := (A0.alloc (.cells #[.int .u8 45] 5)).app (m := [45]) hgrow hown (by simp only [List.length_append, List.length_cons, List.length_nil]; try omega) (bc_one _ 45); clear hown hgrow hat hlt; generalize (Value.slice (some ⟨g1, 0, none⟩) ((([] : List UInt8)).length + 1) cap1) = v1 at *; have k1_0 : w1.cell? ⟨w.heap.size, 0, none⟩ = some (.int .i64 3) := A1.cell 0; have k1_1 : w1.cell? ⟨w.heap.size, 1, none⟩ = some (.bool true) := A1.cell 1; have k1_2 : w1.cell? ⟨w.heap.size, 2, none⟩ = some (.bool g) := A1.cell 2; have k1_3 : w1.cell? ⟨w.heap.size, 3, none⟩ = some (.string (B d)) := A1.cell 3; have k1_4 : w1.cell? ⟨w.heap.size, 4, none⟩ = some (.int .i64 e) := A1.cell 4) | (go_at_call 116; refine (appNaN_any w.heap.size 3 true g d e v1 ([] ++ [45]) _ (by simp) hd A1.own A1.bs).mono ?_; rintro x w8 ⟨v8, rfl, hown8, hb8⟩; have hcv := own_str hown8 (by rw [List.length_append]; have := nanT_pos g d; omega)))
  go_ret
  exact ⟨rfl, A1.bel.trans hb8⟩
set_option maxHeartbeats 2000000 in
theorem text_to (g : Bool) (d : List UInt8) (e : Int) (c : Int) (w : World) (hd : d.length < 100000) (h2 : (c == 2) = false) (h3 : (c == 3) = false) (he : -9223372036854775808 ≤ e ∧ e ≤ 9223372036854775807) (htab : Lib.TabIs Tryz.prog w "internal/strconv.uint64pow10" .u64 Lib.pow10Tab) :
    Calls Tryz.prog 84 #[PV c true g d e] w fun x w' => x = .returned (.string (B ([45] ++ finT d e))) ∧ Below w.heap.size w w' := by
  have htl := B_toList
  obtain ⟨i0, hi, hz0, hz1, hz2⟩ := info_parts Tryz.info5
  have A0 : Ap w.heap.size w.heap.size (PC c true g d e) (.slice none 0 0) [] w (w.alloc (.cells (PC c true g d e) 57)) := Ap.start (World.ownsRow_nil _ _ _ _) (Nat.le_refl _)
  have hTB := Lib.tabBelow_of_tabIs htab
  unfold PV
  go_enter Tryz.func84, Tryz.ntmps84
  go_wp2_with (first | (at_builtin; refine wpList_append_lies _ rfl (.tmp 6) (.tmp 7) 48 rfl w.heap.size 5 i0 (.int .u8 0) 1 1 Tryz.underlying48 hi hz0 hz1 hz2 rfl (by decide) (.slice none 0 0) (([] : List UInt8)).length (Lib.byteCells (([] : List UInt8))) rfl (A0.alloc (.cells #[.int .u8 45] 5)).own ⟨w.heap.size + 1, 0, none⟩ 1 1 [.int .u8 45] rfl rfl (news1 _ _ _ (by simp)) (one1 _) (by decide) (by unfold maxLen; decide) (by decide) (A0.alloc (.cells #[.int .u8 45] 5)).bs _ rfl ?_; intro g1 cap1 w1 hown hgrow hat hlt; have A1 := (A0.alloc (.cells #[.int .u8 45] 5)).app (m := [45]) hgrow hown (by simp only [List.length_append, List.length_cons, List.length_nil]; try omega) (bc_one _ 45); clear hown hgrow hat hlt; generalize (Value.slice (some ⟨g1, 0, none⟩) ((([] : List UInt8)).length + 1) cap1) = v1 at *; have k1_0 : w1.cell? ⟨w.heap.size, 0, none⟩ = some (.int .i64 c) := A1.cell 0; have k1_1 : w1.cell? ⟨w.heap.size, 1, none⟩ = some (.bool true) := A1.cell 1; have k1_2 : w1.cell? ⟨w.heap.size, 2, none⟩ = some (.bool g) := A1.cell 2; have k1_3 : w1.cell? ⟨w.heap.size, 3, none⟩ = some (.string (B d)) := A1.cell 3; have k1_4 : w1.cell? ⟨w.heap.size, 4, none⟩ = some (.int .i64 e) := A1.cell 4) | (go_at_call 117; refine (appFin_any w.heap.size c true g d e v1 ([] ++ [45]) _ (by simp) hd he A1.own A1.bs (hTB.on A1.bel)).mono ?_; rintro x w8 ⟨v8, rfl, hown8, hb8⟩; have hcv := own_str hown8 (by rw [List.length_append]; have := finT_pos d e; omega)))
  go_ret
  exact ⟨rfl, A1.bel.trans hb8⟩
set_option maxHeartbeats 2000000 in
theorem text_f2 (g : Bool) (d : List UInt8) (e : Int) (w : World) (hd : d.length < 100000) :
    Calls Tryz.prog 84 #[PV 2 false g d e] w fun x w' => x = .returned (.string (B ([105, 110, 102]))) ∧ Below w.heap.size w w' := by
  have htl := B_toList
  obtain ⟨i0, hi, hz0, hz1, hz2⟩ := info_parts Tryz.info5
  have A0 : Ap w.heap.size w.heap.size (PC 2 false g d e) (.slice none 0 0) [] w (w.alloc (.cells (PC 2 false g d e) 57)) := Ap.start (World.ownsRow_nil _ _ _ _) (Nat.le_refl _)
  unfold PV
  go_enter Tryz.func84, Tryz.ntmps84
  go_wp2_with (first | (at_builtin; refine Lib.wpList_append_own_string _ rfl (.tmp 16) (.const (.string ⟨#[105, 110, 102]⟩)) 48 9 rfl w.heap.size 5 i0 Tryz.underlying48 Tryz.underlying9 hi hz0 hz1 hz2 (.slice none 0 0) (([] : List UInt8)).length (Lib.byteCells (([] : List UInt8))) rfl A0.own (B [105, 110, 102]) rfl (by rw [B_size]; unfold maxLen; simp only [List.length_append, List.length_cons, List.length_nil]; omega) (by rw [B_size]; simp only [List.length_append, List.length_cons, List.length_nil]; omega) A0.bs ?_; intro v2 w2 hown hgrow hq; have A2 := A0.app (m := [105, 110, 102]) hgrow hown (by simp only [B_size, List.length_append, List.length_cons, List.length_nil]; try omega) (bc_str _ _); clear hown hgrow hq; have hcv := own_str A2.own (by simp)))
  go_ret
  exact ⟨rfl, A2.bel⟩
set_option maxHeartbeats 2000000 in
theorem text_f3 (g : Bool) (d : List UInt8) (e : Int) (w : World) (hd : d.length < 100000) :
    Calls Tryz.prog 84 #[PV 3 false g d e] w fun x w' => x = .returned (.string (B (nanT g d))) ∧ Below w.heap.size w w' := by
  have htl := B_toList
  obtain ⟨i0, hi, hz0, hz1, hz2⟩ := info_parts Tryz.info5
  have A0 : Ap w.heap.size w.heap.size (PC 3 false g d e) (.slice none 0 0) [] w (w.alloc (.cells (PC 3 false g d e) 57)) := Ap.start (World.ownsRow_nil _ _ _ _) (Nat.le_refl _)
  unfold PV
  go_enter Tryz.func84, Tryz.ntmps84
  go_wp2_with (first | (go_at_call 116; refine (appNaN_any w.heap.size 3 false g d e (.slice none 0 0) [] _ (by simp) hd A0.own A0.bs).mono ?_; rintro x w8 ⟨v8, rfl, hown8, hb8⟩; have hcv := own_str hown8 (by rw [List.length_append]; have := nanT_pos g d; omega)))
  go_ret
  exact ⟨rfl, A0.bel.trans hb8⟩
set_option maxHeartbeats 2000000 in
theorem text_fo (g : Bool) (d : List UInt8) (e : Int) (c : Int) (w : World) (hd : d.length < 100000) (h2 : (c == 2) = false) (h3 : (c == 3) = false) (he : -9223372036854775808 ≤ e ∧ e ≤ 9223372036854775807) (htab : Lib.TabIs Tryz.prog w "internal/strconv.uint64pow10" .u64 Lib.pow10Tab) :
    Calls Tryz.prog 84 #[PV c false g d e] w fun x w' => x = .returned (.string (B (finT d e))) ∧ Below w.heap.size w w' := by
  have htl := B_toList
  obtain ⟨i0, hi, hz0, hz1, hz2⟩ := info_parts Tryz.info5
  have A0 : Ap w.heap.size w.heap.size (PC c false g d e) (.slice none 0 0) [] w (w.alloc (.cells (PC c false g d e) 57)) := Ap.start (World.ownsRow_nil _ _ _ _) (Nat.le_refl _)
  have hTB := Lib.tabBelow_of_tabIs htab
  unfold PV
  go_enter Tryz.func84, Tryz.ntmps84
  go_wp2_with (first | (go_at_call 117; refine (appFin_any w.heap.size c false g d e (.slice none 0 0) [] _ (by simp) hd he A0.own A0.bs (hTB.on A0.bel)).mono ?_; rintro x w8 ⟨v8, rfl, hown8, hb8⟩; have hcv := own_str hown8 (by rw [List.length_append]; have := finT_pos d e; omega)))
  go_ret
  exact ⟨rfl, A0.bel.trans hb8⟩
theorem text_any (c : Int) (s g : Bool) (d : List UInt8) (e : Int) (w : World) (hd : d.length < 100000) (he : -9223372036854775808 ≤ e ∧ e ≤ 9223372036854775807) (htab : Lib.TabIs Tryz.prog w "internal/strconv.uint64pow10" .u64 Lib.pow10Tab) :
    Calls Tryz.prog 84 #[PV c s g d e] w fun x w' => x = .returned (.string (B (texT c s g d e))) ∧ Below w.heap.size w w' := by
  unfold texT bodT
  by_cases h2 : c = 2
  · rw [if_pos h2]; subst h2
    cases s
    · exact text_f2 g d e w hd
    · exact text_t2 g d e w hd
  · rw [if_neg h2]
    by_cases h3 : c = 3
    · rw [if_pos h3]; subst h3
      cases s
      · exact text_f3 g d e w hd
      · exact text_t3 g d e w hd
    · rw [if_neg h3]
      cases s
      · exact text_fo g d e c w hd (beq_eq_false_iff_ne.2 h2) (beq_eq_false_iff_ne.2 h3) he htab
      · exact text_to g d e c w hd (beq_eq_false_iff_ne.2 h2) (beq_eq_false_iff_ne.2 h3) he htab
end
end Go.Proofs.YtpemdcnneabbfaaGreatDoor
