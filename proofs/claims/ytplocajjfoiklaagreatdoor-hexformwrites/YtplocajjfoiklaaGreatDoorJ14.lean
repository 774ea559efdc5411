/-
  Texts that the proof leans on, joined: Gu, Ma, Mb, Kn.
-/
import Derived.Test.YtplocajjfoiklaaGreatDoorJ13
import Derived.Test.YtplocajjfoiklaaGreatDoorJ11
import Derived.Test.YtplocajjfoiklaaGreatDoorJ12
import Derived.Test.YtplocajjfoiklaaGreatDoorJ1
import Derived.Shelf.Strings.SlTrimAscii
import Derived.Lib.AtoiAllMem
import Derived.Lib.ConvBytes
import Derived.Lib.UnsafeStr
import Derived.Laws.Strings3
import Derived.Laws.Closers25
import Derived.Laws.Closers25b
import Derived.Lib.LaidTab
import Derived.Test.YtplocajjfoiklaaGreatDoorJ9
set_option linter.unusedVariables false
set_option linter.unusedSimpArgs false
set_option maxRecDepth 20000
set_option linter.unusedSectionVars false
namespace Go.Proofs.YtplocajjfoiklaaGreatDoor
open Go.RowKit

def nanT (g : Bool) (d : List UInt8) : List UInt8 := (if g then [115] else []) ++ ([110, 97, 110] ++ (if d = [] then [] else 40 :: (d ++ [41])))
def finT (d : List UInt8) (e : Int) : List UInt8 := dgT d ++ exT e
def bodT (c : Int) (g : Bool) (d : List UInt8) (e : Int) : List UInt8 := if c = 2 then [105, 110, 102] else if c = 3 then nanT g d else finT d e
def texT (c : Int) (s g : Bool) (d : List UInt8) (e : Int) : List UInt8 := (if s then [45] else []) ++ bodT c g d e
theorem nanT_pos (g : Bool) (d : List UInt8) : 0 < (nanT g d).length := by unfold nanT; simp only [List.length_append, List.length_cons]; omega
theorem finT_pos (d : List UInt8) (e : Int) : 0 < (finT d e).length := by
  unfold finT dgT
  rw [List.length_append]
  split
  · simp; omega
  · rename_i h
    have : 0 < d.length := List.length_pos_iff.2 h
    omega
theorem appNaN_any (Bs : Nat) (c : Int) (s g : Bool) (d : List UInt8) (e : Int) (v : Value) (l : List UInt8) (w : World) (hl : l.length < 100000) (hd : d.length < 100000) (hown : w.ownsRow Bs 5 1 v l.length (Lib.byteCells l)) (hb : Bs ≤ w.heap.size) :
    Calls Tryz.prog 189 #[v, PV c s g d e] w fun x w' => ∃ v', x = .returned v' ∧ w'.ownsRow Bs 5 1 v' (l ++ nanT g d).length (Lib.byteCells (l ++ nanT g d)) ∧ Below Bs w w' := by
  cases g
  · cases d with
    | nil => exact appNaN_fn Bs c s e v l w hl hown hb
    | cons x xs => exact appNaN_fc Bs c s x xs e v l w hl hown hb hd
  · cases d with
    | nil => exact appNaN_tn Bs c s e v l w hl hown hb
    | cons x xs => exact appNaN_tc Bs c s x xs e v l w hl hown hb hd
theorem appFin_any (Bs : Nat) (c : Int) (s g : Bool) (d : List UInt8) (e : Int) (v : Value) (l : List UInt8) (w : World) (hl : l.length < 100000) (hd : d.length < 100000) (he : -9223372036854775808 ≤ e ∧ e ≤ 9223372036854775807) (hown : w.ownsRow Bs 5 1 v l.length (Lib.byteCells l)) (hb : Bs ≤ w.heap.size) (htab : Lib.TabBelow Tryz.prog Bs w "internal/strconv.uint64pow10" .u64 Lib.pow10Tab) :
    Calls Tryz.prog 190 #[v, PV c s g d e] w fun x w' => ∃ v', x = .returned v' ∧ w'.ownsRow Bs 5 1 v' (l ++ finT d e).length (Lib.byteCells (l ++ finT d e)) ∧ Below Bs w w' := by
  by_cases h0 : e = 0
  · subst h0
    cases d with
    | nil => exact appFin_n0 Bs c s g v l w hl hown hb
    | cons x xs =>
      have : finT (x :: xs) 0 = x :: xs := by unfold finT dgT exT; simp
      rw [this]
      exact appFin_c0 Bs c s g x xs v l w hl hown hb hd
  · have h1 : (e != 0) = true := by simpa using h0
    have e1 : exT e = 101 :: Lib.itoa e := if_neg h0
    cases d with
    | nil =>
      have := appFin_ne Bs c s g e v l w hl hown hb h1 he htab
      unfold finT; rw [e1]; exact this
    | cons x xs =>
      have := appFin_ce Bs c s g x xs e v l w hl hown hb hd h1 he htab
      unfold finT; rw [e1]; exact this
theorem own_str {Bs : Nat} {v : Value} {l : List UInt8} {W : World} (h : W.ownsRow Bs 5 1 v l.length (Lib.byteCells l)) (hp : 0 < l.length) : (convert 81 9 v).run Tryz.prog W = .ok (.string (B l)) W := by
  obtain ⟨g, cap, rfl, _, _⟩ := h.form hp
  refine run_convert_bytes_back W 81 9 5 ⟨g, 0, none⟩ cap l Tryz.underlying81 Tryz.underlying5 Tryz.underlying9 fun j hj => ?_
  rw [show (⟨g, 0, none⟩ : Addr).add j = ⟨g, j, none⟩ by unfold Addr.add; split <;> simp_all]
  rw [h.cellAt j (by omega)]
  simp [Lib.byteCells, hj]
set_option maxHeartbeats 2000000 in
theorem text_t2 (g : Bool) (d : List UInt8) (e : Int) (w : World) (hd : d.length < 100000) :
    Calls Tryz.prog 144 #[PV 2 true g d e] w fun x w' => x = .returned (.string (B ([45] ++ [105, 110, 102]))) ∧ Below w.heap.size w w' := by
  have htl := B_toList
  obtain ⟨i0, hi, hz0, hz1, hz2⟩ := info_parts Tryz.info5
  have A0 : Ap w.heap.size w.heap.size (PC 2 true g d e) (.slice none 0 0) [] w (w.alloc (.cells (PC 2 true g d e) 64)) := Ap.start (World.ownsRow_nil _ _ _ _) (Nat.le_refl _)
  unfold PV
  go_enter Tryz.func144, Tryz.ntmps144
  go_wp2_with (first | (at_builtin; refine wpList_append_lies _ rfl (.tmp 6) (.tmp 7) 81 rfl w.heap.size 5 i0 (.int .u8 0) 1 1 Tryz.underlying81 hi hz0 hz1 hz2 rfl (by decide) (.slice none 0 0) (([] : List UInt8)).length (Lib.byteCells (([] : List UInt8))) rfl (A0.alloc (.cells #[.int .u8 45] 5)).own ⟨w.heap.size + 1, 0, none⟩ 1 1 [.int .u8 45] rfl rfl (news1 _ _ _ (by simp)) (one1 _) (by decide) (by unfold maxLen; decide) (by decide) (A0.alloc (.cells #[.int .u8 45] 5)).bs _ rfl ?_; intro g1 cap1 w1 hown hgrow hat hlt; have A1 := (A0.alloc (.cells #[.int .u8 45] 5)).app (m := [45]) hgrow hown (by simp only [List.length_append, List.length_cons, List.length_nil]; try omega) (bc_one _ 45); clear hown hgrow hat hlt; generalize (Value.slice (some ⟨g1, 0, none⟩) ((([] : List UInt8)).length + 1) cap1) = v1 at *; have k1_0 : w1.cell? ⟨w.heap.size, 0, none⟩ = some (.int .i64 2) := A1.cell 0; have k1_1 : w1.cell? ⟨w.heap.size, 1, none⟩ = some (.bool true) := A1.cell 1; have k1_2 : w1.cell? ⟨w.heap.size, 2, none⟩ = some (.bool g) := A1.cell 2; have k1_3 : w1.cell? ⟨w.heap.size, 3, none⟩ = some (.string (B d)) := A1.cell 3; have k1_4 : w1.cell? ⟨w.heap.size, 4, none⟩ = some (.int .i64 e) := A1.cell 4) | (at_builtin; refine Lib.wpList_append_own_string _ rfl (.tmp 16) (.const (.string ⟨#[105, 110, 102]⟩)) 81 9 rfl w.heap.size 5 i0 Tryz.underlying81 Tryz.underlying9 hi hz0 hz1 hz2 v1 (([] ++ [45])).length (Lib.byteCells (([] ++ [45]))) rfl A1.own (B [105, 110, 102]) rfl (by rw [B_size]; unfold maxLen; simp only [List.length_append, List.length_cons, List.length_nil]; omega) (by rw [B_size]; simp only [List.length_append, List.length_cons, List.length_nil]; omega) A1.bs ?_; intro v2 w2 hown hgrow hq; have A2 := A1.app (m := [105, 110, 102]) hgrow hown (by simp only [B_size, List.length_append, List.length_cons, List.length_nil]; try omega) (bc_str _ _); clear hown hgrow hq; have hcv := own_str A2.own (by simp)))
  go_ret
  exact ⟨rfl, A2.bel⟩
set_option maxHeartbeats 2000000 in
theorem text_t3 (g : Bool) (d : List UInt8) (e : Int) (w : World) (hd : d.length < 100000) :
    Calls Tryz.prog 144 #[PV 3 true g d e] w fun x w' => x = .returned (.string (B ([45] ++ nanT g d))) ∧ Below w.heap.size w w' := by
  have htl := B_toList
  obtain ⟨i0, hi, hz0, hz1, hz2⟩ := info_parts Tryz.info5
  have A0 : Ap w.heap.size w.heap.size (PC 3 true g d e) (.slice none 0 0) [] w (w.alloc (.cells (PC 3 true g d e) 64)) := Ap.start (World.ownsRow_nil _ _ _ _) (Nat.le_refl _)
  unfold PV
  go_enter Tryz.func144, Tryz.ntmps144
  go_wp2_with (first | (at_builtin; refine wpList_append_lies _ rfl (.tmp 6) (.tmp 7) 81 rfl w.heap.size 5 i0 (.int .u8 0) 1 1 Tryz.underlying81 hi hz0 hz1 hz2 rfl (by decide) (.slice none 0 0) (([] : List UInt8)).length (Lib.byteCells (([] : List UInt8))) rfl (A0.alloc (.cells #[.int .u8 45] 5)).own ⟨w.heap.size + 1, 0, none⟩ 1 1 [.int .u8 45] rfl rfl (news1 _ _ _ (by simp)) (one1 _) (by decide) (by unfold maxLen; decide) (by decide) (A0.alloc (.cells #[.int .u8 45] 5)).bs _ rfl ?_; intro g1 cap1 w1 hown hgrow hat hlt; have A1 := (A0.alloc (.cells #[.int .u8 45] 5)).app (m := [45]) hgrow hown (by simp only [List.length_append, List.length_cons, List.length_nil]; try omega) (bc_one _ 45); clear hown hgrow hat hlt; generalize (Value.slice (some ⟨g1, 0, none⟩) ((([] : List UInt8)).length + 1) cap1) = v1 at *; have k1_0 : w1.cell? ⟨w.heap.size, 0, none⟩ = some (.int .i64 3) := A1.cell 0; have k1_1 : w1.cell? ⟨w.heap.size, 1, none⟩ = some (.bool true) := A1.cell 1; have k1_2 : w1.cell? ⟨w.heap.size, 2, none⟩ = some (.bool g) := A1.cell 2; have k1_3 : w1.cell? ⟨w.heap.size, 3, none⟩ = some (.string (B d)) := A1.cell 3; have k1_4 : w1.cell? ⟨w.heap.size, 4, none⟩ = some (.int .i64 e) := A1.cell 4) | (go_at_call 189; refine (appNaN_any w.heap.size 3 true g d e v1 ([] ++ [45]) _ (by simp) hd A1.own A1.bs).mono ?_; rintro x w8 ⟨v8, rfl, hown8, hb8⟩; have hcv := own_str hown8 (by rw [List.length_append]; have := nanT_pos g d; omega)))
  go_ret
  exact ⟨rfl, A1.bel.trans hb8⟩
set_option maxHeartbeats 2000000 in
theorem text_to (g : Bool) (d : List UInt8) (e : Int) (c : Int) (w : World) (hd : d.length < 100000) (h2 : (c == 2) = false) (h3 : (c == 3) = false) (he : -9223372036854775808 ≤ e ∧ e ≤ 9223372036854775807) (htab : Lib.TabIs Tryz.prog w "internal/strconv.uint64pow10" .u64 Lib.pow10Tab) :
    Calls Tryz.prog 144 #[PV c true g d e] w fun x w' => x = .returned (.string (B ([45] ++ finT d e))) ∧ Below w.heap.size w w' := by
  have htl := B_toList
  obtain ⟨i0, hi, hz0, hz1, hz2⟩ := info_parts Tryz.info5
  have A0 : Ap w.heap.size w.heap.size (PC c true g d e) (.slice none 0 0) [] w (w.alloc (.cells (PC c true g d e) 64)) := Ap.start (World.ownsRow_nil _ _ _ _) (Nat.le_refl _)
  have hTB := Lib.tabBelow_of_tabIs htab
  unfold PV
  go_enter Tryz.func144, Tryz.ntmps144
  go_wp2_with (first | (at_builtin; refine wpList_append_lies _ rfl (.tmp 6) (.tmp 7) 81 rfl w.heap.size 5 i0 (.int .u8 0) 1 1 Tryz.underlying81 hi hz0 hz1 hz2 rfl (by decide) (.slice none 0 0) (([] : List UInt8)).length (Lib.byteCells (([] : List UInt8))) rfl (A0.alloc (.cells #[.int .u8 45] 5)).own ⟨w.heap.size + 1, 0, none⟩ 1 1 [.int .u8 45] rfl rfl (news1 _ _ _ (by simp)) (one1 _) (by decide) (by unfold maxLen; decide) (by decide) (A0.alloc (.cells #[.int .u8 45] 5)).bs _ rfl ?_; intro g1 cap1 w1 hown hgrow hat hlt; have A1 := (A0.alloc (.cells #[.int .u8 45] 5)).app (m := [45]) hgrow hown (by simp only [List.length_append, List.length_cons, List.length_nil]; try omega) (bc_one _ 45); clear hown hgrow hat hlt; generalize (Value.slice (some ⟨g1, 0, none⟩) ((([] : List UInt8)).length + 1) cap1) = v1 at *; have k1_0 : w1.cell? ⟨w.heap.size, 0, none⟩ = some (.int .i64 c) := A1.cell 0; have k1_1 : w1.cell? ⟨w.heap.size, 1, none⟩ = some (.bool true) := A1.cell 1; have k1_2 : w1.cell? ⟨w.heap.size, 2, none⟩ = some (.bool g) := A1.cell 2; have k1_3 : w1.cell? ⟨w.heap.size, 3, none⟩ = some (.string (B d)) := A1.cell 3; have k1_4 : w1.cell? ⟨w.heap.size, 4, none⟩ = some (.int .i64 e) := A1.cell 4) | (go_at_call 190; refine (appFin_any w.heap.size c true g d e v1 ([] ++ [45]) _ (by simp) hd he A1.own A1.bs (hTB.on A1.bel)).mono ?_; rintro x w8 ⟨v8, rfl, hown8, hb8⟩; have hcv := own_str hown8 (by rw [List.length_append]; have := finT_pos d e; omega)))
  go_ret
  exact ⟨rfl, A1.bel.trans hb8⟩
set_option maxHeartbeats 2000000 in
theorem text_f2 (g : Bool) (d : List UInt8) (e : Int) (w : World) (hd : d.length < 100000) :
    Calls Tryz.prog 144 #[PV 2 false g d e] w fun x w' => x = .returned (.string (B ([105, 110, 102]))) ∧ Below w.heap.size w w' := by
  have htl := B_toList
  obtain ⟨i0, hi, hz0, hz1, hz2⟩ := info_parts Tryz.info5
  have A0 : Ap w.heap.size w.heap.size (PC 2 false g d e) (.slice none 0 0) [] w (w.alloc (.cells (PC 2 false g d e) 64)) := Ap.start (World.ownsRow_nil _ _ _ _) (Nat.le_refl _)
  unfold PV
  go_enter Tryz.func144, Tryz.ntmps144
  go_wp2_with (first | (at_builtin; refine Lib.wpList_append_own_string _ rfl (.tmp 16) (.const (.string ⟨#[105, 110, 102]⟩)) 81 9 rfl w.heap.size 5 i0 Tryz.underlying81 Tryz.underlying9 hi hz0 hz1 hz2 (.slice none 0 0) (([] : List UInt8)).length (Lib.byteCells (([] : List UInt8))) rfl A0.own (B [105, 110, 102]) rfl (by rw [B_size]; unfold maxLen; simp only [List.length_append, List.length_cons, List.length_nil]; omega) (by rw [B_size]; simp only [List.length_append, List.length_cons, List.length_nil]; omega) A0.bs ?_; intro v2 w2 hown hgrow hq; have A2 := A0.app (m := [105, 110, 102]) hgrow hown (by simp only [B_size, List.length_append, List.length_cons, List.length_nil]; try omega) (bc_str _ _); clear hown hgrow hq; have hcv := own_str A2.own (by simp)))
  go_ret
  exact ⟨rfl, A2.bel⟩
set_option maxHeartbeats 2000000 in
theorem text_f3 (g : Bool) (d : List UInt8) (e : Int) (w : World) (hd : d.length < 100000) :
    Calls Tryz.prog 144 #[PV 3 false g d e] w fun x w' => x = .returned (.string (B (nanT g d))) ∧ Below w.heap.size w w' := by
  have htl := B_toList
  obtain ⟨i0, hi, hz0, hz1, hz2⟩ := info_parts Tryz.info5
  have A0 : Ap w.heap.size w.heap.size (PC 3 false g d e) (.slice none 0 0) [] w (w.alloc (.cells (PC 3 false g d e) 64)) := Ap.start (World.ownsRow_nil _ _ _ _) (Nat.le_refl _)
  unfold PV
  go_enter Tryz.func144, Tryz.ntmps144
  go_wp2_with (first | (go_at_call 189; refine (appNaN_any w.heap.size 3 false g d e (.slice none 0 0) [] _ (by simp) hd A0.own A0.bs).mono ?_; rintro x w8 ⟨v8, rfl, hown8, hb8⟩; have hcv := own_str hown8 (by rw [List.length_append]; have := nanT_pos g d; omega)))
  go_ret
  exact ⟨rfl, A0.bel.trans hb8⟩
set_option maxHeartbeats 2000000 in
theorem text_fo (g : Bool) (d : List UInt8) (e : Int) (c : Int) (w : World) (hd : d.length < 100000) (h2 : (c == 2) = false) (h3 : (c == 3) = false) (he : -9223372036854775808 ≤ e ∧ e ≤ 9223372036854775807) (htab : Lib.TabIs Tryz.prog w "internal/strconv.uint64pow10" .u64 Lib.pow10Tab) :
    Calls Tryz.prog 144 #[PV c false g d e] w fun x w' => x = .returned (.string (B (finT d e))) ∧ Below w.heap.size w w' := by
  have htl := B_toList
  obtain ⟨i0, hi, hz0, hz1, hz2⟩ := info_parts Tryz.info5
  have A0 : Ap w.heap.size w.heap.size (PC c false g d e) (.slice none 0 0) [] w (w.alloc (.cells (PC c false g d e) 64)) := Ap.start (World.ownsRow_nil _ _ _ _) (Nat.le_refl _)
  have hTB := Lib.tabBelow_of_tabIs htab
  unfold PV
  go_enter Tryz.func144, Tryz.ntmps144
  go_wp2_with (first | (go_at_call 190; refine (appFin_any w.heap.size c false g d e (.slice none 0 0) [] _ (by simp) hd he A0.own A0.bs (hTB.on A0.bel)).mono ?_; rintro x w8 ⟨v8, rfl, hown8, hb8⟩; have hcv := own_str hown8 (by rw [List.length_append]; have := finT_pos d e; omega)))
  go_ret
  exact ⟨rfl, A0.bel.trans hb8⟩
theorem text_any (c : Int) (s g : Bool) (d : List UInt8) (e : Int) (w : World) (hd : d.length < 100000) (he : -9223372036854775808 ≤ e ∧ e ≤ 9223372036854775807) (htab : Lib.TabIs Tryz.prog w "internal/strconv.uint64pow10" .u64 Lib.pow10Tab) :
    Calls Tryz.prog 144 #[PV c s g d e] w fun x w' => x = .returned (.string (B (texT c s g d e))) ∧ Below w.heap.size w w' := by
  unfold texT bodT
  by_cases h2 : c = 2
  · rw [if_pos h2]; subst h2
    cases s
    · exact text_f2 g d e w hd
    · exact text_t2 g d e w hd
  · rw [if_neg h2]
    by_cases h3 : c = 3
    · rw [if_pos h3]; subst h3
      cases s
      · exact text_f3 g d e w hd
      · exact text_t3 g d e w hd
    · rw [if_neg h3]
      cases s
      · exact text_fo g d e c w hd (beq_eq_false_iff_ne.2 h2) (beq_eq_false_iff_ne.2 h3) he htab
      · exact text_to g d e c w hd (beq_eq_false_iff_ne.2 h2) (beq_eq_false_iff_ne.2 h3) he htab
end Go.Proofs.YtplocajjfoiklaaGreatDoor

set_option maxRecDepth 100000
namespace Go.Proofs.YtplocajjfoiklaaGreatDoor
open Go.RowKit

theorem trimx_any (l : List UInt8) (w : World) : Calls Tryz.prog 126 #[.string (B l), .string ⟨#[48, 49, 50, 51, 52, 53, 54, 55, 56, 57, 97, 98, 99, 100, 101, 102, 65, 66, 67, 68, 69, 70]⟩] w fun e w' => e = .returned (.string (B (l.dropWhile hxc))) ∧ Below w.heap.size w w' := by
  refine (Any.strings_TrimLeft_laid Tryz.lays161 (by kernel_rfl) (B l) (B hxAll) w (by decide) (ascii_of_all (by decide))).mono fun e w' ⟨h1, h2⟩ => ⟨?_, h2⟩
  rw [h1]
  show Ending.returned (Value.string (B (l.dropWhile fun y => hxAll.contains y))) = _
  have : (fun y => hxAll.contains y) = hxc := funext hxc_mem
  rw [this]
/-- a letter, made small -/
theorem lower_fact (y : UInt8) (h : hxc y = true) (hd : dg y = false) : bits BinOp.or IntKind.u8 ((y.toNat : Nat) : Int) 32 = ((hxw (sm y) + 87 : Nat) : Int) := by
  have := u8_all (p := fun y => !hxc y || (dg y || decide (bits BinOp.or IntKind.u8 ((y.toNat : Nat) : Int) 32 = ((hxw (sm y) + 87 : Nat) : Int)))) (by decide +kernel) y
  simpa [h, hd] using this
theorem letter_bd (y : UInt8) (h : hxc y = true) (hd : dg y = false) : 10 ≤ hxw (sm y) ∧ hxw (sm y) ≤ 15 ∧ (¬ y.toNat ≤ 57 ∨ y.toNat < 48) ∧ y.toNat ≠ 95 := by
  have := u8_all (p := fun y => !hxc y || (dg y || decide (10 ≤ hxw (sm y) ∧ hxw (sm y) ≤ 15 ∧ (¬ y.toNat ≤ 57 ∨ y.toNat < 48) ∧ y.toNat ≠ 95))) (by decide +kernel) y
  simpa [h, hd] using this
theorem letter_gt (y : UInt8) (h : hxc y = true) (hd : dg y = false) : 58 ≤ y.toNat := by
  have := u8_all (p := fun y => !hxc y || (dg y || decide (58 ≤ y.toNat))) (by decide +kernel) y
  simpa [h, hd] using this
theorem digit_fact (y : UInt8) (hd : dg y = true) : hxw (sm y) = y.toNat - 48 ∧ 48 ≤ y.toNat ∧ y.toNat ≤ 57 := by
  have := u8_all (p := fun y => !dg y || decide (hxw (sm y) = y.toNat - 48 ∧ 48 ≤ y.toNat ∧ y.toNat ≤ 57)) (by decide +kernel) y
  simpa [hd] using this
theorem hxc_all_sml {D : List UInt8} (h : D.all hxc = true) : (sml D).all hxB = true := by
  unfold sml
  rw [List.all_map]
  exact h
set_option maxHeartbeats 1000000 in
theorem lower_v (y : UInt8) (h : hxc y = true) (hd : dg y = false) (w : World) : Calls Tryz.prog 210 #[.int .u8 ((y.toNat : Nat) : Int)] w fun e w' => e = .returned (.int .u8 ((hxw (sm y) + 87 : Nat) : Int)) ∧ w = w' := by
  have hf := lower_fact y h hd
  go_enter Tryz.func210, Tryz.ntmps210
  go_wp2
  go_ret
  exact ⟨rfl, rfl⟩
theorem px_get {D : List UInt8} {k : Nat} (h : k < D.length) : ∃ y, D[k]? = some y ∧ D.getD k 0 = y ∧ D.take (k + 1) = D.take k ++ [y] := by
  refine ⟨D[k]'h, List.getElem?_eq_getElem h, by simp [List.getD, List.getElem?_eq_getElem h], by rw [List.take_succ_eq_append_getElem h]⟩
set_option maxHeartbeats 8000000 in
theorem puint_in (D : List UInt8) (hD : D.all hxc = true) (h0 : D ≠ []) (h16 : D.length ≤ 16) (w : World) :
    Calls Tryz.prog 177 #[.string (B D), .int .i64 16, .int .i64 64] w fun e w' => e = .returned (.tuple #[.int .u64 (hxV (sml D) : Int), .nilIface]) ∧ Below w.heap.size w w' := by
  have hemp : (B D).toList.isEmpty = false := by
    rw [B_toList]
    cases D with
    | nil => exact absurd rfl h0
    | cons _ _ => rfl
  have hcv := Lib.run_convert_string_bytes (P := Tryz.prog) w 9 81 5 (B D) (u := .string) Tryz.underlying9 Tryz.underlying81 Tryz.underlying5
  have hB0 : ∀ j, j < (B D).size → (Lib.bytesWorld w 5 (B D)).cell? ⟨w.heap.size, j, none⟩ = some (.int .u8 ((B D).data.toList.getD j 0).toNat) := fun j hj => Lib.bytesWorld_cell w 5 (B D) j hj
  have HBW : Hid (Below w.heap.size w (Lib.bytesWorld w 5 (B D))) := Lib.below_freeze ((Below.drew (Below.refl _ w)).alloc (Nat.le_refl _) _) (p := ⟨w.heap.size, _, none⟩) (Nat.le_refl _) 1
  obtain ⟨W1, hW1⟩ : ∃ W1, W1 = Lib.bytesWorld w 5 (B D) := ⟨_, rfl⟩
  rw [← hW1] at hcv hB0 HBW
  clear hW1
  have hsz : (B D).size = D.length := B_size D
  have hB : ∀ j, j < D.length → W1.cell? ⟨w.heap.size, j, none⟩ = some (.int .u8 (D.getD j 0).toNat) := fun j hj => hB0 j (by omega)
  clear hB0
  obtain ⟨n, hn⟩ : ∃ n, D.length = n := ⟨_, rfl⟩
  rw [hn] at hsz hB h16
  have hn16 : (n : Int) ≤ 16 := by omega
  have HG : Hid (∀ k, k < n → ∃ y, hxc y = true ∧ D.getD k 0 = y ∧ hxV (sml (D.take (k + 1))) = hxV (sml (D.take k)) * 16 + hxw (sm y)) := fun k hk => by
    obtain ⟨y, e1, e2, e3⟩ := px_get (D := D) (k := k) (by omega)
    refine ⟨y, List.all_eq_true.1 hD y (List.mem_of_getElem? e1), e2, ?_⟩
    rw [e3, sml_app, show sml [y] = [sm y] from rfl, hxV_snoc]
  have HL : Hid (∀ k, k ≤ n → hxV (sml (D.take k)) < 16 ^ k) := fun k hk => by
    have h1 : (sml (D.take k)).all hxB = true := hxc_all_sml (List.all_eq_true.2 fun y hy => List.all_eq_true.1 hD y (List.mem_of_mem_take hy))
    have h2 := hxV_lt h1
    rwa [sml_len, List.length_take, hn, Nat.min_eq_left hk] at h2
  have HT : Hid (hxV (sml (D.take n)) = hxV (sml D)) := by show _ = _; rw [← hn, List.take_length]
  have HZ : Hid (hxV (sml (D.take 0)) = 0) := rfl
  have hmv : IntKind.u64.wrap (IntKind.u64.wrap 18446744073709551616 - 1) = 18446744073709551615 := by
    rw [IntKind.wrap_u64, IntKind.wrap_u64]
    decide
  clear hD h0 hn
  generalize hq : B D = BD at *
  generalize hV : hxV (sml D) = VD at *
  clear hq hV
  obtain ⟨f, hf⟩ : ∃ f : Nat → Nat, ∀ k, f k = hxV (sml (D.take k)) := ⟨fun k => hxV (sml (D.take k)), fun _ => rfl⟩
  simp only [← hf] at HG HL HT HZ
  clear hf
  go_enter Tryz.func177, Tryz.ntmps177
  go_wp2
  go_loop [12, 13, 101] (fun vu vn vi => ∃ (k : Nat) (a : Int), vu = .bool false ∧ vn = .int .u64 a ∧ vi = .int .i64 k ∧ k ≤ n ∧ Hid (a = (f k : Int)))
    (fun _ _ vi => n - (intOf vi).toNat)
  case atStart => exact ⟨0, 0, rfl, rfl, rfl, by omega, by show _ = _; rw [HZ.out]; rfl⟩
  case round =>
    obtain ⟨k, a, rfl, rfl, rfl, hk, hh⟩ := hrel
    have a0 : 0 ≤ a := by have := hh.out; omega
    by_cases hkn : k < n
    · have hc := hB k hkn
      obtain ⟨y, y1, y2, y3⟩ := HG.out k hkn
      rw [y2] at hc
      have a1 : a < 1152921504606846976 := by
        have h1 := HL.out k hk
        have h2 : 16 ^ k ≤ 16 ^ 15 := Nat.pow_le_pow_right (by decide) (by omega)
        have := hh.out
        have h3 : (16 : Nat) ^ 15 = 1152921504606846976 := by decide
        omega
      have HN : Hid (a * 16 + (hxw (sm y) : Int) = (f (k + 1) : Int)) := by
        show _ = _
        rw [y3, hh.out]
        omega
      have hki : (k : Int) < n := by omega
      have hc256 : y.toNat < 256 := y.toNat_lt
      clear hB hh y3 y2
      by_cases hd : dg y = true
      · obtain ⟨d1, d2, d3⟩ := digit_fact y hd
        have hd0 : 48 ≤ ((y.toNat : Nat) : Int) := by omega
        have hd1 : ((y.toNat : Nat) : Int) ≤ 57 := by omega
        rw [d1, show ((y.toNat - 48 : Nat) : Int) = ((y.toNat : Nat) : Int) - 48 by omega] at HN
        clear d1 d2 d3 hd y1
        go_wp2
        refine ⟨⟨k + 1, a * 16 + (((y.toNat : Nat) : Int) - 48), rfl, (by first | rfl | (congr 1; omega)), (by first | rfl | (congr 1; omega)), by omega, HN⟩, by simp [intOf]; omega⟩
      · have hd' : dg y = false := by simpa using hd
        have hlo := fun W => lower_v y y1 hd' W
        have hgt := letter_gt y y1 hd'
        obtain ⟨b1, b2, _, b4⟩ := letter_bd y y1 hd'
        have hgi : 58 ≤ ((y.toNat : Nat) : Int) := by omega
        have hne : (((y.toNat : Nat) : Int) == 95) = false := by rw [beq_eq_false_iff_ne]; omega
        obtain ⟨E, hE⟩ : ∃ E : Int, ((hxw (sm y) + 87 : Nat) : Int) = E := ⟨_, rfl⟩
        rw [hE] at hlo
        have hE1 : 97 ≤ E := by omega
        have hE2 : E ≤ 102 := by omega
        rw [show (hxw (sm y) : Int) = E - 97 + 10 by omega] at HN
        clear hE b1 b2 b4 hd hd' y1 hgt
        go_wp2_with (go_at_call 210; refine (hlo _).mono ?_; rintro e w' ⟨rfl, rfl⟩)
        refine ⟨⟨k + 1, a * 16 + (E - 97 + 10), rfl, (by first | rfl | (congr 1; omega)), (by first | rfl | (congr 1; omega)), by omega, HN⟩, by simp [intOf]; omega⟩
    · have hkk : k = n := by omega
      subst hkk
      have hfin : a = (VD : Int) := by rw [hh.out, HT.out]
      subst hfin
      clear hh hB
      go_wp2
      go_ret2
      exact ⟨rfl, HBW.out⟩
set_option maxHeartbeats 1000000 in
theorem puint_v (D : List UInt8) (hD : D.all hxc = true) (h0 : D ≠ []) (h16 : D.length ≤ 16) (w : World) :
    Calls Tryz.prog 128 #[.string (B D), .int .i64 16, .int .i64 64] w fun e w' => e = .returned (.tuple #[.int .u64 (hxV (sml D) : Int), .nilIface]) ∧ Below w.heap.size w w' := by
  have c := fun W => puint_in D hD h0 h16 W
  generalize B D = BD at *
  generalize ((hxV (sml D) : Nat) : Int) = V at *
  go_enter Tryz.func128, Tryz.ntmps128
  go_wp2_with (go_at_call 177; refine (c _).mono ?_; rintro e w' ⟨rfl, hb⟩)
  go_ret2
  exact ⟨rfl, hb⟩
end Go.Proofs.YtplocajjfoiklaaGreatDoor

namespace Go.Proofs.YtplocajjfoiklaaGreatDoor
open Go.RowKit

/-- Go's table of trailing noughts -/
def tzTab : List Int := [0, 1, 56, 2, 57, 49, 28, 3, 61, 58, 42, 50, 38, 29, 17, 4, 62, 47, 59, 36, 45, 43, 51, 22, 53, 39, 33, 30, 24, 18, 12, 5] ++ [63, 55, 48, 27, 60, 41, 37, 16, 46, 35, 44, 21, 52, 32, 23, 11, 54, 26, 40, 15, 34, 20, 31, 10, 25, 14, 19, 9, 13, 8, 7, 6]
def TbZ (w : World) : Prop := Lib.TabIs Tryz.prog w "math/bits.deBruijn64tab" .u8 tzTab
theorem TbZ.next {w w' : World} (h : TbZ w) (hb : Below w.heap.size w w') : TbZ w' := Lib.tabBelow_of_tabIs h w' hb
theorem TbZ.at {w : World} (h : TbZ w) : w.cell? ⟨7, 15, none⟩ = some (.int .u8 4) := by
  have := Lib.TabIs.cell h (g := 7) (by kernel_rfl) 15 (by decide)
  exact this
theorem own_bel {w w' : World} {base n : Nat} {v : Value} {xs : List Value} (h : w.ownsRow base 5 1 v n xs) (hB : Below w.heap.size w w') : w'.ownsRow base 5 1 v n xs := by
  obtain ⟨h1, h2⟩ := h
  refine ⟨h1, ?_⟩
  rcases h2 with h2 | ⟨g', cap, cur, e, hb, hh, r⟩
  · exact Or.inl h2
  · have hg : g' < w.heap.size := by
      rcases Nat.lt_or_ge g' w.heap.size with h' | h'
      · exact h'
      · rw [Array.getElem?_eq_none h'] at hh; cases hh
    exact Or.inr ⟨g', cap, cur, e, hb, (hB.block g' hg).trans hh, r⟩
set_option maxHeartbeats 1000000 in
theorem tz_v (w : World) (hT : TbZ w) : Calls Tryz.prog 235 #[.int .u64 16] w fun e w' => e = .returned (.int .i64 4) ∧ w = w' := by
  have hc := hT.at
  have h1 : bits BinOp.and IntKind.u64 16 18446744073709551600 = 16 := by decide
  have h2 : IntKind.u64.wrap (-16) = 18446744073709551600 := by decide
  have h3 : IntKind.u64.wrap 4573923408821661840 = 4573923408821661840 := by decide
  clear hT
  go_enter Tryz.func235, Tryz.ntmps235
  go_wp2
  go_ret
  exact ⟨rfl, rfl⟩
set_option maxHeartbeats 1000000 in
theorem tzu_v (w : World) (hT : TbZ w) : Calls Tryz.prog 208 #[.int .u64 16] w fun e w' => e = .returned (.int .i64 4) ∧ w = w' := by
  have c := tz_v w hT
  go_enter Tryz.func208, Tryz.ntmps208
  go_wp2_with (go_at_call 235; refine c.mono ?_; rintro e w' ⟨rfl, rfl⟩)
  go_ret
  exact ⟨rfl, rfl⟩
set_option maxHeartbeats 1000000 in
theorem ip_v (w : World) : Calls Tryz.prog 207 #[.int .i64 16] w fun e w' => e = .returned (.bool true) ∧ w = w' := by
  have hp : bits BinOp.and IntKind.i64 16 15 = 0 := by decide
  go_enter Tryz.func207, Tryz.ntmps207
  go_wp2
  go_ret
  exact ⟨rfl, rfl⟩
theorem hx36 (x : Nat) (hx : x < 16) : ∀ h : x < (⟨#[48, 49, 50, 51, 52, 53, 54, 55, 56, 57, 97, 98, 99, 100, 101, 102, 103, 104, 105, 106, 107, 108, 109, 110, 111, 112, 113, 114, 115, 116, 117, 118, 119, 120, 121, 122]⟩ : ByteArray).size, (((⟨#[48, 49, 50, 51, 52, 53, 54, 55, 56, 57, 97, 98, 99, 100, 101, 102, 103, 104, 105, 106, 107, 108, 109, 110, 111, 112, 113, 114, 115, 116, 117, 118, 119, 120, 121, 122]⟩ : ByteArray)[x]'h).toNat : Int) = (((hxd x).toNat : Nat) : Int) := by
  intro h
  have hor : x = 0 ∨ x = 1 ∨ x = 2 ∨ x = 3 ∨ x = 4 ∨ x = 5 ∨ x = 6 ∨ x = 7 ∨ x = 8 ∨ x = 9 ∨ x = 10 ∨ x = 11 ∨ x = 12 ∨ x = 13 ∨ x = 14 ∨ x = 15 := by omega
  rcases hor with rfl | rfl | rfl | rfl | rfl | rfl | rfl | rfl | rfl | rfl | rfl | rfl | rfl | rfl | rfl | rfl <;> rfl
set_option maxHeartbeats 4000000 in
theorem fbits_v (Bs : Nat) (v : Value) (l : List UInt8) (x : Nat) (hx : x < 16) (w : World) (hT : TbZ w) (hown : w.ownsRow Bs 5 1 v l.length (Lib.byteCells l)) (hb : Bs ≤ w.heap.size) (hl : l.length ≤ 1000) :
    Calls Tryz.prog 172 #[v, .int .u64 (x : Int), .int .i64 16, .bool false, .bool true] w fun e w' => ∃ v', e = .returned (.tuple #[v', .string ⟨#[]⟩]) ∧ w'.ownsRow Bs 5 1 v' (l ++ [hxd x]).length (Lib.byteCells (l ++ [hxd x])) ∧ Below Bs w w' := by
  have hix := hx36 x hx
  obtain ⟨c, hc⟩ : ∃ c : Int, (((hxd x).toNat : Nat) : Int) = c := ⟨_, rfl⟩
  rw [hc] at hix
  have hcb : 0 ≤ c ∧ c ≤ 255 := by have := (hxd x).toNat_lt; omega
  have hxi : (x : Int) < 16 := by omega
  have hp : bits BinOp.and IntKind.i64 16 15 = 0 := by decide
  have zs : Tryz.zeroCells224.size = 65 := by kernel_rfl
  have z64 : Tryz.zeroCells224[64]? = some (.int .u8 0) := by kernel_rfl
  have HB1 : Below w.heap.size w (w.alloc (.cells (Tryz.zeroCells224.setIfInBounds 64 (.int .u8 c)) 224)) := below1 _ _
  have hcT := tzu_v (w.alloc (.cells Tryz.zeroCells224 224)) (hT.next (below1 _ _))
  obtain ⟨i0, hi, hz0, hz1, hz2⟩ := info_parts Tryz.info5
  have HOWN := own_bel hown HB1
  have HCELL : (w.alloc (.cells (Tryz.zeroCells224.setIfInBounds 64 (.int .u8 c)) 224)).cell? ⟨w.heap.size, 64, none⟩ = some (.int .u8 c) := by
    simp [zs]
  have HNEWS : ∀ (q : Nat) (u : Value), [Value.int .u8 c][q]? = some u → (w.alloc (.cells (Tryz.zeroCells224.setIfInBounds 64 (.int .u8 c)) 224)).cell? ((⟨w.heap.size, 64, none⟩ : Addr).add q) = some u := by
    intro q u hq
    match q, hq with
    | 0, hq => simp at hq; subst hq; exact HCELL
  have HONE : ∀ u ∈ [Value.int .u8 c], u.oneCell' = true := by
    intro u hu; simp at hu; subst hu; rfl
  have HC : Hid ((((hxd x).toNat : Nat) : Int) = c) := hc
  have HX : Hid (∀ q, v.ownBlock = some q → Bs ≤ q) := fun q hq => (hown.lt q hq).1
  clear hc hown hT
  go_enter Tryz.func172, Tryz.ntmps172
  go_wp2_with (first
    | (go_at_call 207; refine (ip_v _).mono ?_; rintro e w' ⟨rfl, rfl⟩)
    | (go_at_call 208; refine hcT.mono ?_; rintro e w' ⟨rfl, rfl⟩))
  go_loop [1, 13] (fun t1 t13 => t1 = .int .u64 (x : Int) ∧ t13 = .int .i64 65) (fun _ _ => 0)
  case atStart => exact ⟨rfl, rfl⟩
  case round =>
    obtain ⟨rfl, rfl⟩ := hrel
    go_wp2_with (first
      | (at_builtin; refine wpList_append_lies _ rfl (.tmp 95) (.tmp 97) 81 rfl Bs 5 i0 (.int .u8 0) 1 1 Tryz.underlying81 hi hz0 hz1 hz2 rfl (by decide) v l.length (Lib.byteCells l) rfl HOWN ⟨w.heap.size, 64, none⟩ 1 1 [Value.int .u8 c] rfl rfl HNEWS HONE (by omega) (by unfold maxLen; omega) (by omega) (by simp; omega) (w.heap.size + 1) (by simp) ?_; intro g cap w1 hown1 hgrow hat hlt1; clear HOWN HNEWS HONE))
    go_wp2
    go_ret2
    refine ⟨_, rfl, ?_, ?_⟩
    · have e := HC.out
      subst e
      rw [bc_one] at hown1
      exact hown1
    · exact ((Below.refl _ w).alloc hb _).grown hgrow (by simp; omega) HX.out
theorem auint_in (Bs : Nat) (v : Value) (l : List UInt8) (x : Nat) (hx : x < 16) (w : World) (hT : TbZ w) (hown : w.ownsRow Bs 5 1 v l.length (Lib.byteCells l)) (hb : Bs ≤ w.heap.size) (hl : l.length ≤ 1000) :
    Calls Tryz.prog 161 #[v, .int .u64 (x : Int), .int .i64 16] w fun e w' => ∃ v', e = .returned v' ∧ w'.ownsRow Bs 5 1 v' (l ++ [hxd x]).length (Lib.byteCells (l ++ [hxd x])) ∧ Below Bs w w' := by
  have c := fbits_v Bs v l x hx w hT hown hb hl
  go_enter Tryz.func161, Tryz.ntmps161
  go_wp2_with (go_at_call 172; refine c.mono ?_; rintro e w' ⟨v', rfl, h1, h2⟩)
  go_ret
  exact ⟨v', rfl, h1, h2⟩
theorem auint_v (Bs : Nat) (v : Value) (l : List UInt8) (x : Nat) (hx : x < 16) (w : World) (hT : TbZ w) (hown : w.ownsRow Bs 5 1 v l.length (Lib.byteCells l)) (hb : Bs ≤ w.heap.size) (hl : l.length ≤ 1000) :
    Calls Tryz.prog 120 #[v, .int .u64 (x : Int), .int .i64 16] w fun e w' => ∃ v', e = .returned v' ∧ w'.ownsRow Bs 5 1 v' (l ++ [hxd x]).length (Lib.byteCells (l ++ [hxd x])) ∧ Below Bs w w' := by
  have c := auint_in Bs v l x hx w hT hown hb hl
  go_enter Tryz.func120, Tryz.ntmps120
  go_wp2_with (go_at_call 161; refine c.mono ?_; rintro e w' ⟨v', rfl, h1, h2⟩)
  go_ret
  exact ⟨v', rfl, h1, h2⟩
end Go.Proofs.YtplocajjfoiklaaGreatDoor

set_option maxRecDepth 20000
namespace Go.Proofs.YtplocajjfoiklaaGreatDoor
open Go.RowKit

def knB (d : Int) : Prop := 0 ≤ d ∧ d ≤ 4
instance (d : Int) : Decidable (knB d) := inferInstanceAs (Decidable (_ ∧ _))
theorem known_any (d : Int) (w : World) : Calls Tryz.prog 33 #[.int .i64 d] w fun e w' => e = .returned (.bool (decide (knB d))) ∧ w = w' := by
  by_cases h1 : 0 ≤ d
  · by_cases h2 : d ≤ 4
    · rw [decide_eq_true (show knB d from ⟨h1, h2⟩)]
      go_enter Tryz.func33, Tryz.ntmps33
      go_wp2
      go_ret
      exact ⟨rfl, rfl⟩
    · rw [decide_eq_false (show ¬ knB d from fun h => h2 h.2)]
      go_enter Tryz.func33, Tryz.ntmps33
      go_wp2
      go_ret
      exact ⟨rfl, rfl⟩
  · rw [decide_eq_false (show ¬ knB d from fun h => h1 h.1)]
    go_enter Tryz.func33, Tryz.ntmps33
    go_wp2
    go_ret
    exact ⟨rfl, rfl⟩
/-- does what overflows become infinite -/
def inB (d : Int) (s : Bool) : Bool := if d = 0 ∨ d = 1 then true else if d = 3 then !s else if d = 4 then s else false
set_option maxHeartbeats 400000 in
theorem infinite_any (d : Int) (s : Bool) (w : World) : Calls Tryz.prog 137 #[.int .i64 d, .bool s] w fun e w' => e = .returned (.bool (inB d s)) ∧ w = w' := by
  by_cases h0 : d = 0
  · subst h0
    go_enter Tryz.func137, Tryz.ntmps137
    go_wp2
    go_ret
    exact ⟨rfl, rfl⟩
  · by_cases h1 : d = 1
    · subst h1
      go_enter Tryz.func137, Tryz.ntmps137
      go_wp2
      go_ret
      exact ⟨rfl, rfl⟩
    · by_cases h3 : d = 3
      · subst h3
        go_enter Tryz.func137, Tryz.ntmps137
        go_wp2
        go_ret
        exact ⟨rfl, rfl⟩
      · by_cases h4 : d = 4
        · subst h4
          go_enter Tryz.func137, Tryz.ntmps137
          go_wp2
          go_ret
          exact ⟨rfl, rfl⟩
        · have e : inB d s = false := by unfold inB; simp [h0, h1, h3, h4]
          have b0 : (d == 0) = false := by simpa using h0
          have b1 : (d == 1) = false := by simpa using h1
          have b3 : (d == 3) = false := by simpa using h3
          have b4 : (d == 4) = false := by simpa using h4
          rw [e]
          go_enter Tryz.func137, Tryz.ntmps137
          go_wp2
          go_ret
          exact ⟨rfl, rfl⟩
/-- is the neighbour farther from nought taken -/
def faB (d : Int) (s odd : Bool) (R D : Nat) : Bool := if R = 0 then false else if d = 0 then decide (D < R + R) || (decide (R + R = D) && odd) else if d = 1 then decide (D ≤ R + R) else inB d s
theorem sgn_ways (a b : Int) : (a < b ∧ sgn a b = -1) ∨ (a = b ∧ sgn a b = 0) ∨ (b < a ∧ sgn a b = 1) := by
  unfold sgn
  by_cases h : a < b
  · exact Or.inl ⟨h, if_pos h⟩
  · by_cases h' : b < a
    · exact Or.inr (Or.inr ⟨h', by rw [if_neg h, if_pos h']⟩)
    · exact Or.inr (Or.inl ⟨by omega, by rw [if_neg h, if_neg h']⟩)
section
variable (d : Int) (s odd : Bool) (R D : Nat) (vr vd : Value) (w : World)
  (c26 : ∀ W, Below w.heap.size w W → Calls Tryz.prog 77 #[vr] W fun e w' => e = .returned (.int .i64 (bl R : Int)) ∧ W = w')
include c26
set_option maxHeartbeats 400000 in
theorem far_zero (h : R = 0) : Calls Tryz.prog 133 #[.int .i64 d, .bool s, .bool odd, vr, vd] w fun e w' => e = .returned (.bool false) ∧ Below w.heap.size w w' := by
  have hb : (((bl R : Nat) : Int) == 0) = true := by rw [h]; decide
  go_enter Tryz.func133, Tryz.ntmps133
  go_wp2_with (go_at_call 77; refine (c26 _ bgo).mono ?_; rintro e w1 ⟨rfl, rfl⟩)
  go_ret
  exact ⟨rfl, bgo⟩
variable (hv : Int) (hR : (((bl R : Nat) : Int) == 0) = false)
  (c61 : ∀ W, Below w.heap.size w W → Calls Tryz.prog 134 #[vr, vr] W fun e w' => ∃ r, e = .returned r ∧ (∀ W', Below w'.heap.size w' W' → Calls Tryz.prog 131 #[r, vd] W' fun e w'' => e = .returned (.int .i64 hv) ∧ Below W'.heap.size W' w'') ∧ Below W.heap.size W w')
include hR c61
set_option maxHeartbeats 400000 in
theorem far_0g (h : 0 < hv) : Calls Tryz.prog 133 #[.int .i64 0, .bool s, .bool odd, vr, vd] w fun e w' => e = .returned (.bool true) ∧ Below w.heap.size w w' := by
  go_enter Tryz.func133, Tryz.ntmps133
  go_wp2_with (first
    | (go_at_call 77; refine (c26 _ bgo).mono ?_; rintro e w1 ⟨rfl, rfl⟩)
    | (go_at_call 134; refine (c61 _ bgo).mono ?_; rintro e w2 ⟨v2, rfl, c58, hb2⟩; have hA2 := bnx (w0 := w) bgo hb2)
    | (go_at_call 131; refine (c58 _ (Below.refl _ _)).mono ?_; rintro e w3 ⟨rfl, hb3⟩; have hA3 := bnx (w0 := w) hA2 hb3)
    | (go_at_call 137; refine (infinite_any _ _ _).mono ?_; rintro e w4 ⟨rfl, rfl⟩))
  go_ret
  exact ⟨by first | rfl | (simp; omega), bgo⟩
set_option maxHeartbeats 400000 in
theorem far_0e (h : hv = 0) : Calls Tryz.prog 133 #[.int .i64 0, .bool s, .bool odd, vr, vd] w fun e w' => e = .returned (.bool odd) ∧ Below w.heap.size w w' := by
  subst h
  go_enter Tryz.func133, Tryz.ntmps133
  go_wp2_with (first
    | (go_at_call 77; refine (c26 _ bgo).mono ?_; rintro e w1 ⟨rfl, rfl⟩)
    | (go_at_call 134; refine (c61 _ bgo).mono ?_; rintro e w2 ⟨v2, rfl, c58, hb2⟩; have hA2 := bnx (w0 := w) bgo hb2)
    | (go_at_call 131; refine (c58 _ (Below.refl _ _)).mono ?_; rintro e w3 ⟨rfl, hb3⟩; have hA3 := bnx (w0 := w) hA2 hb3)
    | (go_at_call 137; refine (infinite_any _ _ _).mono ?_; rintro e w4 ⟨rfl, rfl⟩))
  go_ret
  exact ⟨by first | rfl | (simp; omega), bgo⟩
set_option maxHeartbeats 400000 in
theorem far_0l (h : ¬ 0 < hv) (h1 : (hv == 0) = false) : Calls Tryz.prog 133 #[.int .i64 0, .bool s, .bool odd, vr, vd] w fun e w' => e = .returned (.bool false) ∧ Below w.heap.size w w' := by
  go_enter Tryz.func133, Tryz.ntmps133
  go_wp2_with (first
    | (go_at_call 77; refine (c26 _ bgo).mono ?_; rintro e w1 ⟨rfl, rfl⟩)
    | (go_at_call 134; refine (c61 _ bgo).mono ?_; rintro e w2 ⟨v2, rfl, c58, hb2⟩; have hA2 := bnx (w0 := w) bgo hb2)
    | (go_at_call 131; refine (c58 _ (Below.refl _ _)).mono ?_; rintro e w3 ⟨rfl, hb3⟩; have hA3 := bnx (w0 := w) hA2 hb3)
    | (go_at_call 137; refine (infinite_any _ _ _).mono ?_; rintro e w4 ⟨rfl, rfl⟩))
  go_ret
  exact ⟨by first | rfl | (simp; omega), bgo⟩
set_option maxHeartbeats 400000 in
theorem far_1g (h : 0 ≤ hv) : Calls Tryz.prog 133 #[.int .i64 1, .bool s, .bool odd, vr, vd] w fun e w' => e = .returned (.bool true) ∧ Below w.heap.size w w' := by
  go_enter Tryz.func133, Tryz.ntmps133
  go_wp2_with (first
    | (go_at_call 77; refine (c26 _ bgo).mono ?_; rintro e w1 ⟨rfl, rfl⟩)
    | (go_at_call 134; refine (c61 _ bgo).mono ?_; rintro e w2 ⟨v2, rfl, c58, hb2⟩; have hA2 := bnx (w0 := w) bgo hb2)
    | (go_at_call 131; refine (c58 _ (Below.refl _ _)).mono ?_; rintro e w3 ⟨rfl, hb3⟩; have hA3 := bnx (w0 := w) hA2 hb3)
    | (go_at_call 137; refine (infinite_any _ _ _).mono ?_; rintro e w4 ⟨rfl, rfl⟩))
  go_ret
  exact ⟨by first | rfl | (simp; omega), bgo⟩
set_option maxHeartbeats 400000 in
theorem far_1l (h : ¬ 0 ≤ hv) : Calls Tryz.prog 133 #[.int .i64 1, .bool s, .bool odd, vr, vd] w fun e w' => e = .returned (.bool false) ∧ Below w.heap.size w w' := by
  go_enter Tryz.func133, Tryz.ntmps133
  go_wp2_with (first
    | (go_at_call 77; refine (c26 _ bgo).mono ?_; rintro e w1 ⟨rfl, rfl⟩)
    | (go_at_call 134; refine (c61 _ bgo).mono ?_; rintro e w2 ⟨v2, rfl, c58, hb2⟩; have hA2 := bnx (w0 := w) bgo hb2)
    | (go_at_call 131; refine (c58 _ (Below.refl _ _)).mono ?_; rintro e w3 ⟨rfl, hb3⟩; have hA3 := bnx (w0 := w) hA2 hb3)
    | (go_at_call 137; refine (infinite_any _ _ _).mono ?_; rintro e w4 ⟨rfl, rfl⟩))
  go_ret
  exact ⟨by first | rfl | (simp; omega), bgo⟩
set_option maxHeartbeats 400000 in
theorem far_d (h0 : (d == 0) = false) (h1 : (d == 1) = false) : Calls Tryz.prog 133 #[.int .i64 d, .bool s, .bool odd, vr, vd] w fun e w' => e = .returned (.bool (inB d s)) ∧ Below w.heap.size w w' := by
  go_enter Tryz.func133, Tryz.ntmps133
  go_wp2_with (first
    | (go_at_call 77; refine (c26 _ bgo).mono ?_; rintro e w1 ⟨rfl, rfl⟩)
    | (go_at_call 134; refine (c61 _ bgo).mono ?_; rintro e w2 ⟨v2, rfl, c58, hb2⟩; have hA2 := bnx (w0 := w) bgo hb2)
    | (go_at_call 131; refine (c58 _ (Below.refl _ _)).mono ?_; rintro e w3 ⟨rfl, hb3⟩; have hA3 := bnx (w0 := w) hA2 hb3)
    | (go_at_call 137; refine (infinite_any _ _ _).mono ?_; rintro e w4 ⟨rfl, rfl⟩))
  go_ret
  exact ⟨by first | rfl | (simp; omega), bgo⟩
end
theorem farther_v (d : Int) (s odd : Bool) {K K' R D : Nat} {vr vd : Value} {w : World} (hK : K < 1000000) (hK' : K' < 1000000) (h : Nt K R vr w) (h' : Nt K' D vd w) :
    Calls Tryz.prog 133 #[.int .i64 d, .bool s, .bool odd, vr, vd] w fun e w' => e = .returned (.bool (faB d s odd R D)) ∧ Below w.heap.size w w' := by
  have c26 := fun W (hb : Below w.heap.size w W) => nlen_v (by omega) (h.next hb)
  unfold faB
  by_cases hz : R = 0
  · rw [if_pos hz]; exact far_zero d s odd R vr vd w c26 hz
  · rw [if_neg hz]
    have hR : (((bl R : Nat) : Int) == 0) = false := by
      have : bl R ≠ 0 := fun e => hz (bl_zero.1 e)
      rw [beq_eq_false_iff_ne]; omega
    have c61 : ∀ W, Below w.heap.size w W → Calls Tryz.prog 134 #[vr, vr] W fun e w' => ∃ r, e = .returned r ∧ (∀ W', Below w'.heap.size w' W' → Calls Tryz.prog 131 #[r, vd] W' fun e w'' => e = .returned (.int .i64 (sgn ((R + R : Nat) : Int) (D : Int))) ∧ Below W'.heap.size W' w'') ∧ Below W.heap.size W w' := fun W hb =>
      (nadd_v (by omega) (by omega) (h.next hb) (h.next hb)).mono fun e w' ⟨r, h1, h2, h3⟩ => ⟨r, h1, fun W' hb' => ncmp_v (by omega) (by omega) (h2.nt.next hb') (h'.next (bnx (bnx hb h3) hb')), h3⟩
    by_cases h0 : d = 0
    · subst h0
      rw [if_pos rfl]
      rcases sgn_ways ((R + R : Nat) : Int) (D : Int) with ⟨a, e⟩ | ⟨a, e⟩ | ⟨a, e⟩
      · rw [e] at c61
        rw [decide_eq_false (show ¬ D < R + R by omega), decide_eq_false (show ¬ R + R = D by omega)]
        exact far_0l s odd R vr vd w c26 (-1) hR c61 (by decide) (by decide)
      · rw [e] at c61
        rw [decide_eq_false (show ¬ D < R + R by omega), decide_eq_true (show R + R = D by omega), Bool.false_or, Bool.true_and]
        exact far_0e s odd R vr vd w c26 0 hR c61 rfl
      · rw [e] at c61
        rw [decide_eq_true (show D < R + R by omega), Bool.true_or]
        exact far_0g s odd R vr vd w c26 1 hR c61 (by decide)
    · rw [if_neg h0]
      by_cases h1 : d = 1
      · subst h1
        rw [if_pos rfl]
        rcases sgn_ways ((R + R : Nat) : Int) (D : Int) with ⟨a, e⟩ | ⟨a, e⟩ | ⟨a, e⟩
        · rw [e] at c61
          rw [decide_eq_false (show ¬ D ≤ R + R by omega)]
          exact far_1l s odd R vr vd w c26 (-1) hR c61 (by decide)
        · rw [e] at c61
          rw [decide_eq_true (show D ≤ R + R by omega)]
          exact far_1g s odd R vr vd w c26 0 hR c61 (by decide)
        · rw [e] at c61
          rw [decide_eq_true (show D ≤ R + R by omega)]
          exact far_1g s odd R vr vd w c26 1 hR c61 (by decide)
      · rw [if_neg h1]
        exact far_d d s odd R vr vd w c26 _ hR c61 (by simpa using h0) (by simpa using h1)
theorem raised_any (x s : Bool) (w : World) : Calls Tryz.prog 84 #[.bool x, .bool s] w fun e w' => e = .returned (.int .i64 (if x then 0 else if s then 12 else 8)) ∧ w = w' := by
  cases x <;> cases s
  all_goals (
    go_enter Tryz.func84, Tryz.ntmps84
    go_wp2
    go_ret
    exact ⟨rfl, rfl⟩)
end Go.Proofs.YtplocajjfoiklaaGreatDoor
