/-
  Texts that the proof leans on.
-/
import Derived.Test.YtpemdcnneabbfaaGreatDoorJ14
import Derived.Test.YtpemdcnneabbfaaGreatDoorJ3
import Derived.RegionTactic
import Derived.ChangeAlike
import Derived.BigRegion
import Derived.Laws.Strings2
import Derived.Lib.AppendStr
import Derived.Lib.Builder
import Derived.Deep.AppendLies
set_option linter.unusedVariables false
set_option linter.unusedSimpArgs false
set_option linter.unusedSectionVars false
set_option maxRecDepth 20000
namespace Go.Proofs.YtpemdcnneabbfaaGreatDoor
open Go.RowKit
section
/-- a number's parts -/
structure Prt where
  cls : Int
  sg : Bool
  sn : Bool
  dig : List UInt8
  ex : Int
def Prt.v (p : Prt) : Value := PV p.cls p.sg p.sn p.dig p.ex
def Prt.zero : Prt := ⟨0, false, false, [], 0⟩
/-- the parts of a text whose sign z is gone -/
def bodP (z : Bool) (r : List UInt8) : Option Prt :=
  if finB r then some ⟨1, z, false, finD r, finE r⟩
  else if infB (sml r) then some ⟨2, z, false, [], 0⟩
  else if nanB (sml r) then some ⟨3, z, Lib.hasPrefix (sml r) [115], bar (paD (nanR (sml r))), 0⟩
  else none
def cutP (l : List UInt8) : Option Prt := if 4000 < l.length then none else bodP (gsgB l) (sgR l)
def cutE (l : List UInt8) : Int := if 4000 < l.length then 4 else if (cutP l).isSome then 0 else 2
def cutV (l : List UInt8) : Prt := (cutP l).getD Prt.zero
set_option maxHeartbeats 2000000 in
theorem cut_long (l : List UInt8) (w : World) (hs : l.length < 10001) (hl : 4000 < l.length) :
    Calls Tryz.prog 22 #[.string (B l)] w fun e w' => e = .returned (.tuple #[PV 0 false false [] 0, .int .i64 4]) ∧ Below w.heap.size w w' := by
  have hsz := B_size l
  have hi : (4000 : Int) < l.length := by omega
  unfold PV
  go_enter Tryz.func22, Tryz.ntmps22
  go_wp2
  exact bodyPost_ret (v := .tuple #[.agg #[.int .i64 0, .bool false, .bool false, .string ⟨#[]⟩, .int .i64 0], .int .i64 4]) (by simp only [results, Tryz.results22]; go_simp) rfl ⟨rfl, bgo⟩
set_option maxHeartbeats 2000000 in
theorem cut_fin (l : List UInt8) (w : World) (hl : l.length ≤ 4000) (hf : finB (sgR l) = true) :
    Calls Tryz.prog 22 #[.string (B l)] w fun e w' => e = .returned (.tuple #[PV 1 (gsgB l) false (finD (sgR l)) (finE (sgR l)), .int .i64 0]) ∧ Below w.heap.size w w' := by
  have hsz := B_size l
  have hi : (l.length : Int) ≤ 4000 := by omega
  have hsl := sgR_le l
  have c16 := fun w => lsign_any l w (by omega)
  have c17 := fun w => fin_eq (sgR l) w (by omega)
  rw [hf] at c17
  simp only [if_true] at c17
  unfold PV at c17 ⊢
  generalize finD (sgR l) = D at *
  generalize finE (sgR l) = E at *
  generalize gsgB l = z at *
  generalize sgR l = R at *
  have hsm : ∀ (W : World) (b i : Nat) (v : Value), (W.setCell ⟨b, i, none⟩ v).cell? ⟨b, i, none⟩ = (W.cell? ⟨b, i, none⟩).map fun _ => v := fun W b i v => gcell_set_map W b i v
  go_enter Tryz.func22, Tryz.ntmps22
  go_wp2_with (first | (go_at_call 42; refine (c16 _).mono ?_; rintro x w1 ⟨rfl, hb1⟩; obtain ⟨hc1, hf1⟩ := gbcell hb1; have hz1_0 : w.heap.size < w1.heap.size := glt_below hb1 ltg; have hl1_0 := Nat.le_of_lt hz1_0; have hA1 := gbnext (w0 := w) bgo hb1; have hs1 := hA1.size; clear hb1) | (go_at_call 43; refine (c17 _).mono ?_; rintro x w2 ⟨rfl, hb2⟩; obtain ⟨hc2, hf2⟩ := gbcell hb2; have hz2_0 : w.heap.size < w2.heap.size := glt_below hb2 ltg; have hl2_0 := Nat.le_of_lt hz2_0; have hA2 := gbnext (w0 := w) bgo hb2; have hs2 := hA2.size; clear hb2))
  exact bodyPost_ret (v := .tuple #[.agg #[.int .i64 1, .bool z, .bool false, .string (B D), .int .i64 E], .int .i64 0]) (by simp only [results, Tryz.results22]; go_simp) rfl ⟨rfl, bgo⟩
set_option maxHeartbeats 2000000 in
theorem cut_wo (l : List UInt8) (w : World) (hl : l.length ≤ 4000) (hf : finB (sgR l) = false) (C : Int) (G : Bool) (D : List UInt8) (hv : woV (sgR l) = PV C false G D 0) (hb : woB (sgR l) = true) :
    Calls Tryz.prog 22 #[.string (B l)] w fun e w' => e = .returned (.tuple #[PV C (gsgB l) G D 0, .int .i64 0]) ∧ Below w.heap.size w w' := by
  have hsz := B_size l
  have hi : (l.length : Int) ≤ 4000 := by omega
  have hsl := sgR_le l
  have c16 := fun w => lsign_any l w (by omega)
  have c17 := fun w => fin_eq (sgR l) w (by omega)
  have c18 := fun w => gword_any (sgR l) w (by omega)
  rw [hf] at c17
  rw [hv, hb] at c18
  simp only [Bool.false_eq_true, if_false] at c17
  unfold PV at c17 c18 ⊢
  clear hv hb hf
  generalize gsgB l = z at *
  generalize sgR l = R at *
  have hsm := gcell_set_map
  go_enter Tryz.func22, Tryz.ntmps22
  go_wp2_with (first | (go_at_call 42; refine (c16 _).mono ?_; rintro x w1 ⟨rfl, hb1⟩; obtain ⟨hc1, hf1⟩ := gbcell hb1; have hz1_0 : w.heap.size < w1.heap.size := glt_below hb1 ltg; have hl1_0 := Nat.le_of_lt hz1_0; have hA1 := gbnext (w0 := w) bgo hb1; have hs1 := hA1.size; clear hb1) | (go_at_call 43; refine (c17 _).mono ?_; rintro x w2 ⟨rfl, hb2⟩; obtain ⟨hc2, hf2⟩ := gbcell hb2; have hz2_0 : w.heap.size < w2.heap.size := glt_below hb2 ltg; have hl2_0 := Nat.le_of_lt hz2_0; have hA2 := gbnext (w0 := w) bgo hb2; have hs2 := hA2.size; clear hb2) | (go_at_call 44; refine (c18 _).mono ?_; rintro x w3 ⟨rfl, hb3⟩; obtain ⟨hc3, hf3⟩ := gbcell hb3; have hz3_0 : w.heap.size < w3.heap.size := glt_below hb3 ltg; have hl3_0 := Nat.le_of_lt hz3_0; have hz3_1 : w2.heap.size < w3.heap.size := glt_below hb3 ltg; have hl3_1 := Nat.le_of_lt hz3_1; have hA3 := gbnext (w0 := w) bgo hb3; have hs3 := hA3.size; clear hb3))
  exact bodyPost_ret (v := .tuple #[.agg #[.int .i64 C, .bool z, .bool G, .string (B D), .int .i64 0], .int .i64 0]) (by simp only [results, Tryz.results22]; go_simp) rfl ⟨rfl, bgo⟩
set_option maxHeartbeats 2000000 in
theorem cut_no (l : List UInt8) (w : World) (hl : l.length ≤ 4000) (hf : finB (sgR l) = false) (hv : woV (sgR l) = PV 0 false false [] 0) (hb : woB (sgR l) = false) :
    Calls Tryz.prog 22 #[.string (B l)] w fun e w' => e = .returned (.tuple #[PV 0 false false [] 0, .int .i64 2]) ∧ Below w.heap.size w w' := by
  have hsz := B_size l
  have hi : (l.length : Int) ≤ 4000 := by omega
  have hsl := sgR_le l
  have c16 := fun w => lsign_any l w (by omega)
  have c17 := fun w => fin_eq (sgR l) w (by omega)
  have c18 := fun w => gword_any (sgR l) w (by omega)
  rw [hf] at c17
  rw [hv, hb] at c18
  simp only [Bool.false_eq_true, if_false] at c17
  unfold PV at c17 c18 ⊢
  clear hv hb hf
  generalize gsgB l = z at *
  generalize sgR l = R at *
  have hsm := gcell_set_map
  go_enter Tryz.func22, Tryz.ntmps22
  go_wp2_with (first | (go_at_call 42; refine (c16 _).mono ?_; rintro x w1 ⟨rfl, hb1⟩; obtain ⟨hc1, hf1⟩ := gbcell hb1; have hz1_0 : w.heap.size < w1.heap.size := glt_below hb1 ltg; have hl1_0 := Nat.le_of_lt hz1_0; have hA1 := gbnext (w0 := w) bgo hb1; have hs1 := hA1.size; clear hb1) | (go_at_call 43; refine (c17 _).mono ?_; rintro x w2 ⟨rfl, hb2⟩; obtain ⟨hc2, hf2⟩ := gbcell hb2; have hz2_0 : w.heap.size < w2.heap.size := glt_below hb2 ltg; have hl2_0 := Nat.le_of_lt hz2_0; have hA2 := gbnext (w0 := w) bgo hb2; have hs2 := hA2.size; clear hb2) | (go_at_call 44; refine (c18 _).mono ?_; rintro x w3 ⟨rfl, hb3⟩; obtain ⟨hc3, hf3⟩ := gbcell hb3; have hz3_0 : w.heap.size < w3.heap.size := glt_below hb3 ltg; have hl3_0 := Nat.le_of_lt hz3_0; have hz3_1 : w2.heap.size < w3.heap.size := glt_below hb3 ltg; have hl3_1 := Nat.le_of_lt hz3_1; have hA3 := gbnext (w0 := w) bgo hb3; have hs3 := hA3.size; clear hb3))
  exact bodyPost_ret (v := .tuple #[.agg #[.int .i64 0, .bool false, .bool false, .string ⟨#[]⟩, .int .i64 0], .int .i64 2]) (by simp only [results, Tryz.results22]; go_simp) rfl ⟨rfl, bgo⟩
theorem cut_any (l : List UInt8) (w : World) (hs : l.length < 10001) :
    Calls Tryz.prog 22 #[.string (B l)] w fun e w' => e = .returned (.tuple #[(cutV l).v, .int .i64 (cutE l)]) ∧ Below w.heap.size w w' := by
  unfold cutV cutE cutP
  by_cases hl : 4000 < l.length
  · rw [if_pos hl, if_pos hl]
    exact cut_long l w hs hl
  · rw [if_neg hl, if_neg hl]
    unfold bodP
    by_cases hf : finB (sgR l) = true
    · rw [if_pos hf]
      exact cut_fin l w (by omega) hf
    · rw [if_neg hf]
      have hf' : finB (sgR l) = false := by simpa using hf
      by_cases h1 : infB (sml (sgR l)) = true
      · rw [if_pos h1]
        exact cut_wo l w (by omega) hf' 2 false [] (by unfold woV; rw [if_pos h1]) (by unfold woB; rw [h1]; rfl)
      · rw [if_neg h1]
        by_cases h2 : nanB (sml (sgR l)) = true
        · rw [if_pos h2]
          exact cut_wo l w (by omega) hf' 3 _ _ (by unfold woV; rw [if_neg h1, if_pos h2]; rfl) (by unfold woB; rw [h2, Bool.or_true])
        · rw [if_neg h2]
          exact cut_no l w (by omega) hf' (by unfold woV; rw [if_neg h1, if_neg h2]) (by unfold woB; rw [show infB (sml (sgR l)) = false by simpa using h1, show nanB (sml (sgR l)) = false by simpa using h2]; rfl)
end
section
/-- a row of one's own holds the bytes l, and block H the parts -/
structure Ap (Bs H : Nat) (cs : Array Value) (v : Value) (l : List UInt8) (w0 w : World) : Prop where
  own : w.ownsRow Bs 5 1 v l.length (Lib.byteCells l)
  box : w.heap[H]? = some (.cells cs 57)
  bel : Below Bs w0 w
  bs : Bs ≤ w.heap.size
theorem Ap.lt {Bs H : Nat} {cs : Array Value} {v : Value} {l : List UInt8} {w0 w : World} (h : Ap Bs H cs v l w0 w) : H < w.heap.size := by
  rcases Nat.lt_or_ge H w.heap.size with h' | h'
  · exact h'
  · have := h.box; rw [Array.getElem?_eq_none h'] at this; cases this
theorem Ap.cell {Bs H : Nat} {cs : Array Value} {v : Value} {l : List UInt8} {w0 w : World} (h : Ap Bs H cs v l w0 w) (i : Nat) : w.cell? ⟨H, i, none⟩ = cs[i]? := by
  unfold World.cell?
  have hh := h.box
  simp [hh]
theorem Ap.alloc {Bs H : Nat} {cs : Array Value} {v : Value} {l : List UInt8} {w0 w : World} (h : Ap Bs H cs v l w0 w) (o : Obj) : Ap Bs H cs v l w0 (w.alloc o) :=
  ⟨h.own.alloc o, by
    have := h.lt
    rw [show (w.alloc o).heap[H]? = (w.heap.push o)[H]? from rfl, Array.getElem?_push_lt this, ← Array.getElem?_eq_getElem this]
    exact h.box, h.bel.alloc h.bs _, by simp; have := h.bs; omega⟩
theorem Ap.far {Bs H : Nat} {cs : Array Value} {v : Value} {l : List UInt8} {w0 w : World} (h : Ap Bs H cs v l w0 w) : v.ownBlock ≠ some H := Lib.ownBlock_ne h.own h.box (by decide)
theorem Ap.app {Bs H : Nat} {cs : Array Value} {v v' : Value} {l m : List UInt8} {w0 w w1 : World} {n : Nat} {xs : List Value} (h : Ap Bs H cs v l w0 w) (hg : w.grownBy w1 v.ownBlock) (ho : w1.ownsRow Bs 5 1 v' n xs) (hn : n = (l ++ m).length) (hx : xs = Lib.byteCells (l ++ m)) : Ap Bs H cs v' (l ++ m) w0 w1 := by
  subst hn hx
  refine ⟨ho, ?_, h.bel.grown hg h.bs fun k hk => (h.own.lt k hk).1, Nat.le_trans h.bs hg.size⟩
  rw [hg.block H h.lt (fun e => h.far e.symm)]
  exact h.box
theorem bc_one (l : List UInt8) (b : UInt8) : Lib.byteCells l ++ [.int .u8 b.toNat] = Lib.byteCells (l ++ [b]) := by simp [Lib.byteCells]
theorem bc_str (l m : List UInt8) : Lib.byteCells l ++ Lib.strCells (B m) = Lib.byteCells (l ++ m) := by
  simp [Lib.byteCells, Lib.strCells, B]
theorem news1 (W : World) (b : Int) (H' : Nat) (h : W.heap.size = H') : ∀ j u, [Value.int .u8 b][j]? = some u → (W.alloc (.cells #[.int .u8 b] 5)).cell? ((⟨H', 0, none⟩ : Addr).add j) = some u := by
  subst h
  exact World.news_of_block (w := W.alloc (.cells #[.int .u8 b] 5)) (cs := #[.int .u8 b]) (t := 5) (fr := (0, 0)) (by
    show (W.heap.push _)[W.heap.size]? = _
    simp)
theorem one1 (b : Int) : ∀ u ∈ [Value.int .u8 b], u.oneCell' = true := by simp [Value.oneCell']
theorem Tryz.info5 : (Tryz.prog.info? 5).map (fun i => (i.zero, i.size, i.bytes)) = some (some (.int .u8 0), 1, 1) := by kernel_rfl
/-- an exponent's text -/
def exT (e : Int) : List UInt8 := if e = 0 then [] else 101 :: Lib.itoa e
def dgT (d : List UInt8) : List UInt8 := if d = [] then [48] else d
abbrev PC (c : Int) (s g : Bool) (d : List UInt8) (e : Int) : Array Value := #[.int .i64 c, .bool s, .bool g, .string (B d), .int .i64 e]
theorem Ap.start {Bs : Nat} {cs : Array Value} {v : Value} {l : List UInt8} {w : World} (hown : w.ownsRow Bs 5 1 v l.length (Lib.byteCells l)) (hb : Bs ≤ w.heap.size) : Ap Bs w.heap.size cs v l w (w.alloc (.cells cs 57)) :=
  ⟨hown.alloc _, by show (w.heap.push _)[w.heap.size]? = _; simp, (Below.refl _ _).alloc hb _, by simp; omega⟩
set_option maxHeartbeats 2000000 in
theorem appFin_n0 (Bs : Nat) (c : Int) (s g : Bool) (v : Value) (l : List UInt8) (w : World) (hl : l.length < 100000) (hown : w.ownsRow Bs 5 1 v l.length (Lib.byteCells l)) (hb : Bs ≤ w.heap.size) :
    Calls Tryz.prog 117 #[v, PV c s g [] 0] w fun x w' => ∃ v', x = .returned v' ∧ w'.ownsRow Bs 5 1 v' (l ++ [48]).length (Lib.byteCells (l ++ [48])) ∧ Below Bs w w' := by
  have htl := B_toList
  obtain ⟨i0, hi, hz0, hz1, hz2⟩ := info_parts Tryz.info5
  unfold PV
  have A0 : Ap Bs w.heap.size (PC c s g [] 0) v l w (w.alloc (.cells (PC c s g [] 0) 57)) := Ap.start hown hb
  clear hown
  go_enter Tryz.func117, Tryz.ntmps117
  go_wp2_with (first | (at_builtin; refine wpList_append_lies _ rfl (.tmp 8) (.tmp 9) 48 rfl Bs 5 i0 (.int .u8 0) 1 1 Tryz.underlying48 hi hz0 hz1 hz2 rfl (by decide) v (l).length (Lib.byteCells (l)) rfl (A0.alloc (.cells #[.int .u8 48] 5)).own ⟨w.heap.size + 1, 0, none⟩ 1 1 [.int .u8 48] rfl rfl (news1 _ _ _ (by simp)) (one1 _) (by decide) (by unfold maxLen; omega) (by omega) (A0.alloc (.cells #[.int .u8 48] 5)).bs _ rfl ?_; intro g1 cap1 w1 hown hgrow hat hlt; have A1 := (A0.alloc (.cells #[.int .u8 48] 5)).app (m := [48]) hgrow hown (by simp only [List.length_append, List.length_cons, List.length_nil]; try omega) (bc_one _ 48); clear hown hgrow hat hlt; generalize (Value.slice (some ⟨g1, 0, none⟩) ((l).length + 1) cap1) = v1 at *; have k1_0 : w1.cell? ⟨w.heap.size, 0, none⟩ = some (.int .i64 c) := A1.cell 0; have k1_1 : w1.cell? ⟨w.heap.size, 1, none⟩ = some (.bool s) := A1.cell 1; have k1_2 : w1.cell? ⟨w.heap.size, 2, none⟩ = some (.bool g) := A1.cell 2; have k1_3 : w1.cell? ⟨w.heap.size, 3, none⟩ = some (.string (B [])) := A1.cell 3; have k1_4 : w1.cell? ⟨w.heap.size, 4, none⟩ = some (.int .i64 0) := A1.cell 4) | (at_builtin; refine Lib.wpList_append_own_string _ rfl (.tmp 11) (.tmp 13) 48 9 rfl Bs 5 i0 Tryz.underlying48 Tryz.underlying9 hi hz0 hz1 hz2 v1 (l ++ [48]).length (Lib.byteCells (l ++ [48])) rfl A1.own (B []) rfl (by rw [B_size]; unfold maxLen; simp only [List.length_append, List.length_cons, List.length_nil]; omega) (by rw [B_size]; simp only [List.length_append, List.length_cons, List.length_nil]; omega) A1.bs ?_; intro v2 w2 hown hgrow hq; have A2 := A1.app (m := []) hgrow hown (by simp only [B_size, List.length_append, List.length_cons, List.length_nil]; try omega) (bc_str _ _); clear hown hgrow hq; have k2_0 : w2.cell? ⟨w.heap.size, 0, none⟩ = some (.int .i64 c) := A2.cell 0; have k2_1 : w2.cell? ⟨w.heap.size, 1, none⟩ = some (.bool s) := A2.cell 1; have k2_2 : w2.cell? ⟨w.heap.size, 2, none⟩ = some (.bool g) := A2.cell 2; have k2_3 : w2.cell? ⟨w.heap.size, 3, none⟩ = some (.string (B [])) := A2.cell 3; have k2_4 : w2.cell? ⟨w.heap.size, 4, none⟩ = some (.int .i64 0) := A2.cell 4))
  rw [List.append_nil] at A2
  go_ret
  exact ⟨v2, rfl, A2.own, A2.bel⟩
set_option maxHeartbeats 2000000 in
theorem appFin_ne (Bs : Nat) (c : Int) (s g : Bool) (e : Int) (v : Value) (l : List UInt8) (w : World) (hl : l.length < 100000) (hown : w.ownsRow Bs 5 1 v l.length (Lib.byteCells l)) (hb : Bs ≤ w.heap.size) (he : (e != 0) = true) (he1 : -9223372036854775808 ≤ e ∧ e ≤ 9223372036854775807) (htab : Lib.TabBelow Tryz.prog Bs w "internal/strconv.uint64pow10" .u64 Lib.pow10Tab) :
    Calls Tryz.prog 117 #[v, PV c s g [] e] w fun x w' => ∃ v', x = .returned v' ∧ w'.ownsRow Bs 5 1 v' (l ++ ([48] ++ 101 :: Lib.itoa e)).length (Lib.byteCells (l ++ ([48] ++ 101 :: Lib.itoa e))) ∧ Below Bs w w' := by
  have htl := B_toList
  obtain ⟨i0, hi, hz0, hz1, hz2⟩ := info_parts Tryz.info5
  unfold PV
  have A0 : Ap Bs w.heap.size (PC c s g [] e) v l w (w.alloc (.cells (PC c s g [] e) 57)) := Ap.start hown hb
  clear hown
  go_enter Tryz.func117, Tryz.ntmps117
  go_wp2_with (first | (at_builtin; refine wpList_append_lies _ rfl (.tmp 8) (.tmp 9) 48 rfl Bs 5 i0 (.int .u8 0) 1 1 Tryz.underlying48 hi hz0 hz1 hz2 rfl (by decide) v (l).length (Lib.byteCells (l)) rfl (A0.alloc (.cells #[.int .u8 48] 5)).own ⟨w.heap.size + 1, 0, none⟩ 1 1 [.int .u8 48] rfl rfl (news1 _ _ _ (by simp)) (one1 _) (by decide) (by unfold maxLen; omega) (by omega) (A0.alloc (.cells #[.int .u8 48] 5)).bs _ rfl ?_; intro g1 cap1 w1 hown hgrow hat hlt; have A1 := (A0.alloc (.cells #[.int .u8 48] 5)).app (m := [48]) hgrow hown (by simp only [List.length_append, List.length_cons, List.length_nil]; try omega) (bc_one _ 48); clear hown hgrow hat hlt; generalize (Value.slice (some ⟨g1, 0, none⟩) ((l).length + 1) cap1) = v1 at *; have k1_0 : w1.cell? ⟨w.heap.size, 0, none⟩ = some (.int .i64 c) := A1.cell 0; have k1_1 : w1.cell? ⟨w.heap.size, 1, none⟩ = some (.bool s) := A1.cell 1; have k1_2 : w1.cell? ⟨w.heap.size, 2, none⟩ = some (.bool g) := A1.cell 2; have k1_3 : w1.cell? ⟨w.heap.size, 3, none⟩ = some (.string (B [])) := A1.cell 3; have k1_4 : w1.cell? ⟨w.heap.size, 4, none⟩ = some (.int .i64 e) := A1.cell 4) | (at_builtin; refine Lib.wpList_append_own_string _ rfl (.tmp 11) (.tmp 13) 48 9 rfl Bs 5 i0 Tryz.underlying48 Tryz.underlying9 hi hz0 hz1 hz2 v1 (l ++ [48]).length (Lib.byteCells (l ++ [48])) rfl A1.own (B []) rfl (by rw [B_size]; unfold maxLen; simp only [List.length_append, List.length_cons, List.length_nil]; omega) (by rw [B_size]; simp only [List.length_append, List.length_cons, List.length_nil]; omega) A1.bs ?_; intro v2 w2 hown hgrow hq; have A2 := A1.app (m := []) hgrow hown (by simp only [B_size, List.length_append, List.length_cons, List.length_nil]; try omega) (bc_str _ _); clear hown hgrow hq; have k2_0 : w2.cell? ⟨w.heap.size, 0, none⟩ = some (.int .i64 c) := A2.cell 0; have k2_1 : w2.cell? ⟨w.heap.size, 1, none⟩ = some (.bool s) := A2.cell 1; have k2_2 : w2.cell? ⟨w.heap.size, 2, none⟩ = some (.bool g) := A2.cell 2; have k2_3 : w2.cell? ⟨w.heap.size, 3, none⟩ = some (.string (B [])) := A2.cell 3; have k2_4 : w2.cell? ⟨w.heap.size, 4, none⟩ = some (.int .i64 e) := A2.cell 4) | (at_builtin; refine wpList_append_lies _ rfl (.tmp 18) (.tmp 19) 48 rfl Bs 5 i0 (.int .u8 0) 1 1 Tryz.underlying48 hi hz0 hz1 hz2 rfl (by decide) v2 (l ++ [48] ++ []).length (Lib.byteCells (l ++ [48] ++ [])) rfl (A2.alloc (.cells #[.int .u8 101] 5)).own ⟨w2.heap.size, 0, none⟩ 1 1 [.int .u8 101] rfl rfl (news1 _ _ _ rfl) (one1 _) (by decide) (by unfold maxLen; simp only [List.length_append, List.length_cons, List.length_nil]; omega) (by simp only [List.length_append, List.length_cons, List.length_nil]; omega) (A2.alloc (.cells #[.int .u8 101] 5)).bs _ rfl ?_; intro g3 cap3 w3 hown hgrow hat hlt; have A3 := (A2.alloc (.cells #[.int .u8 101] 5)).app (m := [101]) hgrow hown (by simp only [List.length_append, List.length_cons, List.length_nil]; try omega) (bc_one _ 101); clear hown hgrow hat hlt; generalize (Value.slice (some ⟨g3, 0, none⟩) ((l ++ [48] ++ []).length + 1) cap3) = v3 at *; have k3_0 : w3.cell? ⟨w.heap.size, 0, none⟩ = some (.int .i64 c) := A3.cell 0; have k3_1 : w3.cell? ⟨w.heap.size, 1, none⟩ = some (.bool s) := A3.cell 1; have k3_2 : w3.cell? ⟨w.heap.size, 2, none⟩ = some (.bool g) := A3.cell 2; have k3_3 : w3.cell? ⟨w.heap.size, 3, none⟩ = some (.string (B [])) := A3.cell 3; have k3_4 : w3.cell? ⟨w.heap.size, 4, none⟩ = some (.int .i64 e) := A3.cell 4) | (go_at_call 142; refine (Tryz.strconv_AppendInt_10 Bs (l ++ [48] ++ [] ++ [101]).length e he1.1 he1.2 v3 (Lib.byteCells (l ++ [48] ++ [] ++ [101])) w3 A3.own A3.bs (by simp only [List.length_append, List.length_cons, List.length_nil]; omega) (htab.on A3.bel)).mono ?_; rintro x w4 ⟨v4, rfl, hown4, hb4, _⟩))
  go_ret
  refine ⟨v4, rfl, ?_, A3.bel.trans hb4⟩
  have e1 : Lib.byteCells (l ++ [48] ++ [] ++ [101]) ++ Lib.byteCells (Lib.itoa e) = Lib.byteCells (l ++ ([48] ++ 101 :: Lib.itoa e)) := by simp [Lib.byteCells]
  have e2 : (l ++ [48] ++ [] ++ [101]).length + (Lib.itoa e).length = (l ++ ([48] ++ 101 :: Lib.itoa e)).length := by simp [List.length_append]; try omega
  rw [e1, e2] at hown4
  exact hown4
set_option maxHeartbeats 2000000 in
theorem appFin_c0 (Bs : Nat) (c : Int) (s g : Bool) (d : UInt8) (ds : List UInt8) (v : Value) (l : List UInt8) (w : World) (hl : l.length < 100000) (hown : w.ownsRow Bs 5 1 v l.length (Lib.byteCells l)) (hb : Bs ≤ w.heap.size) (hd : ds.length + 1 < 100000) :
    Calls Tryz.prog 117 #[v, PV c s g (d :: ds) 0] w fun x w' => ∃ v', x = .returned v' ∧ w'.ownsRow Bs 5 1 v' (l ++ (d :: ds)).length (Lib.byteCells (l ++ (d :: ds))) ∧ Below Bs w w' := by
  have htl := B_toList
  obtain ⟨i0, hi, hz0, hz1, hz2⟩ := info_parts Tryz.info5
  unfold PV
  have A0 : Ap Bs w.heap.size (PC c s g (d :: ds) 0) v l w (w.alloc (.cells (PC c s g (d :: ds) 0) 57)) := Ap.start hown hb
  clear hown
  have k0_3 : (w.alloc (.cells (PC c s g (d :: ds) 0) 57)).cell? ⟨w.heap.size, 3, none⟩ = some (.string (B (d :: ds))) := A0.cell 3
  go_enter Tryz.func117, Tryz.ntmps117
  go_wp2_with (first | (at_builtin; refine Lib.wpList_append_own_string _ rfl (.tmp 11) (.tmp 13) 48 9 rfl Bs 5 i0 Tryz.underlying48 Tryz.underlying9 hi hz0 hz1 hz2 v (l).length (Lib.byteCells (l)) rfl A0.own (B (d :: ds)) rfl (by rw [B_size]; unfold maxLen; simp only [List.length_append, List.length_cons, List.length_nil]; omega) (by rw [B_size]; simp only [List.length_append, List.length_cons, List.length_nil]; omega) A0.bs ?_; intro v2 w2 hown hgrow hq; have A2 := A0.app (m := (d :: ds)) hgrow hown (by simp only [B_size, List.length_append, List.length_cons, List.length_nil]; try omega) (bc_str _ _); clear hown hgrow hq; have k2_0 : w2.cell? ⟨w.heap.size, 0, none⟩ = some (.int .i64 c) := A2.cell 0; have k2_1 : w2.cell? ⟨w.heap.size, 1, none⟩ = some (.bool s) := A2.cell 1; have k2_2 : w2.cell? ⟨w.heap.size, 2, none⟩ = some (.bool g) := A2.cell 2; have k2_3 : w2.cell? ⟨w.heap.size, 3, none⟩ = some (.string (B (d :: ds))) := A2.cell 3; have k2_4 : w2.cell? ⟨w.heap.size, 4, none⟩ = some (.int .i64 0) := A2.cell 4))
  go_ret
  exact ⟨v2, rfl, A2.own, A2.bel⟩
set_option maxHeartbeats 2000000 in
theorem appFin_ce (Bs : Nat) (c : Int) (s g : Bool) (d : UInt8) (ds : List UInt8) (e : Int) (v : Value) (l : List UInt8) (w : World) (hl : l.length < 100000) (hown : w.ownsRow Bs 5 1 v l.length (Lib.byteCells l)) (hb : Bs ≤ w.heap.size) (hd : ds.length + 1 < 100000) (he : (e != 0) = true) (he1 : -9223372036854775808 ≤ e ∧ e ≤ 9223372036854775807) (htab : Lib.TabBelow Tryz.prog Bs w "internal/strconv.uint64pow10" .u64 Lib.pow10Tab) :
    Calls Tryz.prog 117 #[v, PV c s g (d :: ds) e] w fun x w' => ∃ v', x = .returned v' ∧ w'.ownsRow Bs 5 1 v' (l ++ (d :: ds ++ 101 :: Lib.itoa e)).length (Lib.byteCells (l ++ (d :: ds ++ 101 :: Lib.itoa e))) ∧ Below Bs w w' := by
  have htl := B_toList
  obtain ⟨i0, hi, hz0, hz1, hz2⟩ := info_parts Tryz.info5
  unfold PV
  have A0 : Ap Bs w.heap.size (PC c s g (d :: ds) e) v l w (w.alloc (.cells (PC c s g (d :: ds) e) 57)) := Ap.start hown hb
  clear hown
  have k0_3 : (w.alloc (.cells (PC c s g (d :: ds) e) 57)).cell? ⟨w.heap.size, 3, none⟩ = some (.string (B (d :: ds))) := A0.cell 3
  go_enter Tryz.func117, Tryz.ntmps117
  go_wp2_with (first | (at_builtin; refine Lib.wpList_append_own_string _ rfl (.tmp 11) (.tmp 13) 48 9 rfl Bs 5 i0 Tryz.underlying48 Tryz.underlying9 hi hz0 hz1 hz2 v (l).length (Lib.byteCells (l)) rfl A0.own (B (d :: ds)) rfl (by rw [B_size]; unfold maxLen; simp only [List.length_append, List.length_cons, List.length_nil]; omega) (by rw [B_size]; simp only [List.length_append, List.length_cons, List.length_nil]; omega) A0.bs ?_; intro v2 w2 hown hgrow hq; have A2 := A0.app (m := (d :: ds)) hgrow hown (by simp only [B_size, List.length_append, List.length_cons, List.length_nil]; try omega) (bc_str _ _); clear hown hgrow hq; have k2_0 : w2.cell? ⟨w.heap.size, 0, none⟩ = some (.int .i64 c) := A2.cell 0; have k2_1 : w2.cell? ⟨w.heap.size, 1, none⟩ = some (.bool s) := A2.cell 1; have k2_2 : w2.cell? ⟨w.heap.size, 2, none⟩ = some (.bool g) := A2.cell 2; have k2_3 : w2.cell? ⟨w.heap.size, 3, none⟩ = some (.string (B (d :: ds))) := A2.cell 3; have k2_4 : w2.cell? ⟨w.heap.size, 4, none⟩ = some (.int .i64 e) := A2.cell 4) | (at_builtin; refine wpList_append_lies _ rfl (.tmp 18) (.tmp 19) 48 rfl Bs 5 i0 (.int .u8 0) 1 1 Tryz.underlying48 hi hz0 hz1 hz2 rfl (by decide) v2 (l ++ (d :: ds)).length (Lib.byteCells (l ++ (d :: ds))) rfl (A2.alloc (.cells #[.int .u8 101] 5)).own ⟨w2.heap.size, 0, none⟩ 1 1 [.int .u8 101] rfl rfl (news1 _ _ _ rfl) (one1 _) (by decide) (by unfold maxLen; simp only [List.length_append, List.length_cons, List.length_nil]; omega) (by simp only [List.length_append, List.length_cons, List.length_nil]; omega) (A2.alloc (.cells #[.int .u8 101] 5)).bs _ rfl ?_; intro g3 cap3 w3 hown hgrow hat hlt; have A3 := (A2.alloc (.cells #[.int .u8 101] 5)).app (m := [101]) hgrow hown (by simp only [List.length_append, List.length_cons, List.length_nil]; try omega) (bc_one _ 101); clear hown hgrow hat hlt; generalize (Value.slice (some ⟨g3, 0, none⟩) ((l ++ (d :: ds)).length + 1) cap3) = v3 at *; have k3_0 : w3.cell? ⟨w.heap.size, 0, none⟩ = some (.int .i64 c) := A3.cell 0; have k3_1 : w3.cell? ⟨w.heap.size, 1, none⟩ = some (.bool s) := A3.cell 1; have k3_2 : w3.cell? ⟨w.heap.size, 2, none⟩ = some (.bool g) := A3.cell 2; have k3_3 : w3.cell? ⟨w.heap.size, 3, none⟩ = some (.string (B (d :: ds))) := A3.cell 3; have k3_4 : w3.cell? ⟨w.heap.size, 4, none⟩ = some (.int .i64 e) := A3.cell 4) | (go_at_call 142; refine (Tryz.strconv_AppendInt_10 Bs (l ++ (d :: ds) ++ [101]).length e he1.1 he1.2 v3 (Lib.byteCells (l ++ (d :: ds) ++ [101])) w3 A3.own A3.bs (by simp only [List.length_append, List.length_cons, List.length_nil]; omega) (htab.on A3.bel)).mono ?_; rintro x w4 ⟨v4, rfl, hown4, hb4, _⟩))
  go_ret
  refine ⟨v4, rfl, ?_, A3.bel.trans hb4⟩
  have e1 : Lib.byteCells (l ++ (d :: ds) ++ [101]) ++ Lib.byteCells (Lib.itoa e) = Lib.byteCells (l ++ (d :: ds ++ 101 :: Lib.itoa e)) := by simp [Lib.byteCells]
  have e2 : (l ++ (d :: ds) ++ [101]).length + (Lib.itoa e).length = (l ++ (d :: ds ++ 101 :: Lib.itoa e)).length := by simp [List.length_append]; try omega
  rw [e1, e2] at hown4
  exact hown4
set_option maxHeartbeats 2000000 in
theorem appNaN_fn (Bs : Nat) (c : Int) (s : Bool) (e : Int) (v : Value) (l : List UInt8) (w : World) (hl : l.length < 100000) (hown : w.ownsRow Bs 5 1 v l.length (Lib.byteCells l)) (hb : Bs ≤ w.heap.size) :
    Calls Tryz.prog 116 #[v, PV c s false [] e] w fun x w' => ∃ v', x = .returned v' ∧ w'.ownsRow Bs 5 1 v' (l ++ ([110, 97, 110])).length (Lib.byteCells (l ++ ([110, 97, 110]))) ∧ Below Bs w w' := by
  have htl := B_toList
  obtain ⟨i0, hi, hz0, hz1, hz2⟩ := info_parts Tryz.info5
  unfold PV
  have A0 : Ap Bs w.heap.size (PC c s false [] e) v l w (w.alloc (.cells (PC c s false [] e) 57)) := Ap.start hown hb
  clear hown
  have k0_2 : (w.alloc (.cells (PC c s false [] e) 57)).cell? ⟨w.heap.size, 2, none⟩ = some (.bool false) := A0.cell 2
  go_enter Tryz.func116, Tryz.ntmps116
  go_wp2_with (first | (at_builtin; refine Lib.wpList_append_own_string _ rfl (.tmp 10) (.const (.string ⟨#[110, 97, 110]⟩)) 48 9 rfl Bs 5 i0 Tryz.underlying48 Tryz.underlying9 hi hz0 hz1 hz2 v (l).length (Lib.byteCells (l)) rfl A0.own (B [110, 97, 110]) rfl (by rw [B_size]; unfold maxLen; simp only [List.length_append, List.length_cons, List.length_nil]; omega) (by rw [B_size]; simp only [List.length_append, List.length_cons, List.length_nil]; omega) A0.bs ?_; intro v2 w2 hown hgrow hq; have A2 := A0.app (m := [110, 97, 110]) hgrow hown (by simp only [B_size, List.length_append, List.length_cons, List.length_nil]; try omega) (bc_str _ _); clear hown hgrow hq; have k2_0 : w2.cell? ⟨w.heap.size, 0, none⟩ = some (.int .i64 c) := A2.cell 0; have k2_1 : w2.cell? ⟨w.heap.size, 1, none⟩ = some (.bool s) := A2.cell 1; have k2_2 : w2.cell? ⟨w.heap.size, 2, none⟩ = some (.bool false) := A2.cell 2; have k2_3 : w2.cell? ⟨w.heap.size, 3, none⟩ = some (.string (B [])) := A2.cell 3; have k2_4 : w2.cell? ⟨w.heap.size, 4, none⟩ = some (.int .i64 e) := A2.cell 4))
  go_ret
  exact ⟨v2, rfl, A2.own, A2.bel⟩
set_option maxHeartbeats 2000000 in
theorem appNaN_fc (Bs : Nat) (c : Int) (s : Bool) (d : UInt8) (ds : List UInt8) (e : Int) (v : Value) (l : List UInt8) (w : World) (hl : l.length < 100000) (hown : w.ownsRow Bs 5 1 v l.length (Lib.byteCells l)) (hb : Bs ≤ w.heap.size) (hd : ds.length + 1 < 100000) :
    Calls Tryz.prog 116 #[v, PV c s false (d :: ds) e] w fun x w' => ∃ v', x = .returned v' ∧ w'.ownsRow Bs 5 1 v' (l ++ ([110, 97, 110] ++ 40 :: (d :: ds ++ [41]))).length (Lib.byteCells (l ++ ([110, 97, 110] ++ 40 :: (d :: ds ++ [41])))) ∧ Below Bs w w' := by
  have htl := B_toList
  obtain ⟨i0, hi, hz0, hz1, hz2⟩ := info_parts Tryz.info5
  unfold PV
  have A0 : Ap Bs w.heap.size (PC c s false (d :: ds) e) v l w (w.alloc (.cells (PC c s false (d :: ds) e) 57)) := Ap.start hown hb
  clear hown
  have k0_2 : (w.alloc (.cells (PC c s false (d :: ds) e) 57)).cell? ⟨w.heap.size, 2, none⟩ = some (.bool false) := A0.cell 2
  go_enter Tryz.func116, Tryz.ntmps116
  go_wp2_with (first | (at_builtin; refine Lib.wpList_append_own_string _ rfl (.tmp 10) (.const (.string ⟨#[110, 97, 110]⟩)) 48 9 rfl Bs 5 i0 Tryz.underlying48 Tryz.underlying9 hi hz0 hz1 hz2 v (l).length (Lib.byteCells (l)) rfl A0.own (B [110, 97, 110]) rfl (by rw [B_size]; unfold maxLen; simp only [List.length_append, List.length_cons, List.length_nil]; omega) (by rw [B_size]; simp only [List.length_append, List.length_cons, List.length_nil]; omega) A0.bs ?_; intro v2 w2 hown hgrow hq; have A2 := A0.app (m := [110, 97, 110]) hgrow hown (by simp only [B_size, List.length_append, List.length_cons, List.length_nil]; try omega) (bc_str _ _); clear hown hgrow hq; have k2_0 : w2.cell? ⟨w.heap.size, 0, none⟩ = some (.int .i64 c) := A2.cell 0; have k2_1 : w2.cell? ⟨w.heap.size, 1, none⟩ = some (.bool s) := A2.cell 1; have k2_2 : w2.cell? ⟨w.heap.size, 2, none⟩ = some (.bool false) := A2.cell 2; have k2_3 : w2.cell? ⟨w.heap.size, 3, none⟩ = some (.string (B (d :: ds))) := A2.cell 3; have k2_4 : w2.cell? ⟨w.heap.size, 4, none⟩ = some (.int .i64 e) := A2.cell 4) | (at_builtin; refine wpList_append_lies _ rfl (.tmp 15) (.tmp 16) 48 rfl Bs 5 i0 (.int .u8 0) 1 1 Tryz.underlying48 hi hz0 hz1 hz2 rfl (by decide) v2 (l ++ [110, 97, 110]).length (Lib.byteCells (l ++ [110, 97, 110])) rfl (A2.alloc (.cells #[.int .u8 40] 5)).own ⟨w2.heap.size, 0, none⟩ 1 1 [.int .u8 40] rfl rfl (news1 _ _ _ rfl) (one1 _) (by decide) (by unfold maxLen; simp only [List.length_append, List.length_cons, List.length_nil]; omega) (by simp only [List.length_append, List.length_cons, List.length_nil]; omega) (A2.alloc (.cells #[.int .u8 40] 5)).bs _ rfl ?_; intro g3 cap3 w3 hown hgrow hat hlt; have A3 := (A2.alloc (.cells #[.int .u8 40] 5)).app (m := [40]) hgrow hown (by simp only [List.length_append, List.length_cons, List.length_nil]; try omega) (bc_one _ 40); clear hown hgrow hat hlt; generalize (Value.slice (some ⟨g3, 0, none⟩) ((l ++ [110, 97, 110]).length + 1) cap3) = v3 at *; have k3_0 : w3.cell? ⟨w.heap.size, 0, none⟩ = some (.int .i64 c) := A3.cell 0; have k3_1 : w3.cell? ⟨w.heap.size, 1, none⟩ = some (.bool s) := A3.cell 1; have k3_2 : w3.cell? ⟨w.heap.size, 2, none⟩ = some (.bool false) := A3.cell 2; have k3_3 : w3.cell? ⟨w.heap.size, 3, none⟩ = some (.string (B (d :: ds))) := A3.cell 3; have k3_4 : w3.cell? ⟨w.heap.size, 4, none⟩ = some (.int .i64 e) := A3.cell 4) | (at_builtin; refine Lib.wpList_append_own_string _ rfl (.tmp 18) (.tmp 20) 48 9 rfl Bs 5 i0 Tryz.underlying48 Tryz.underlying9 hi hz0 hz1 hz2 v3 (l ++ [110, 97, 110] ++ [40]).length (Lib.byteCells (l ++ [110, 97, 110] ++ [40])) rfl A3.own (B (d :: ds)) rfl (by rw [B_size]; unfold maxLen; simp only [List.length_append, List.length_cons, List.length_nil]; omega) (by rw [B_size]; simp only [List.length_append, List.length_cons, List.length_nil]; omega) A3.bs ?_; intro v4 w4 hown hgrow hq; have A4 := A3.app (m := (d :: ds)) hgrow hown (by simp only [B_size, List.length_append, List.length_cons, List.length_nil]; try omega) (bc_str _ _); clear hown hgrow hq; have k4_0 : w4.cell? ⟨w.heap.size, 0, none⟩ = some (.int .i64 c) := A4.cell 0; have k4_1 : w4.cell? ⟨w.heap.size, 1, none⟩ = some (.bool s) := A4.cell 1; have k4_2 : w4.cell? ⟨w.heap.size, 2, none⟩ = some (.bool false) := A4.cell 2; have k4_3 : w4.cell? ⟨w.heap.size, 3, none⟩ = some (.string (B (d :: ds))) := A4.cell 3; have k4_4 : w4.cell? ⟨w.heap.size, 4, none⟩ = some (.int .i64 e) := A4.cell 4) | (at_builtin; refine wpList_append_lies _ rfl (.tmp 22) (.tmp 23) 48 rfl Bs 5 i0 (.int .u8 0) 1 1 Tryz.underlying48 hi hz0 hz1 hz2 rfl (by decide) v4 (l ++ [110, 97, 110] ++ [40] ++ (d :: ds)).length (Lib.byteCells (l ++ [110, 97, 110] ++ [40] ++ (d :: ds))) rfl (A4.alloc (.cells #[.int .u8 41] 5)).own ⟨w4.heap.size, 0, none⟩ 1 1 [.int .u8 41] rfl rfl (news1 _ _ _ rfl) (one1 _) (by decide) (by unfold maxLen; simp only [List.length_append, List.length_cons, List.length_nil]; omega) (by simp only [List.length_append, List.length_cons, List.length_nil]; omega) (A4.alloc (.cells #[.int .u8 41] 5)).bs _ rfl ?_; intro g5 cap5 w5 hown hgrow hat hlt; have A5 := (A4.alloc (.cells #[.int .u8 41] 5)).app (m := [41]) hgrow hown (by simp only [List.length_append, List.length_cons, List.length_nil]; try omega) (bc_one _ 41); clear hown hgrow hat hlt; generalize (Value.slice (some ⟨g5, 0, none⟩) ((l ++ [110, 97, 110] ++ [40] ++ (d :: ds)).length + 1) cap5) = v5 at *; have k5_0 : w5.cell? ⟨w.heap.size, 0, none⟩ = some (.int .i64 c) := A5.cell 0; have k5_1 : w5.cell? ⟨w.heap.size, 1, none⟩ = some (.bool s) := A5.cell 1; have k5_2 : w5.cell? ⟨w.heap.size, 2, none⟩ = some (.bool false) := A5.cell 2; have k5_3 : w5.cell? ⟨w.heap.size, 3, none⟩ = some (.string (B (d :: ds))) := A5.cell 3; have k5_4 : w5.cell? ⟨w.heap.size, 4, none⟩ = some (.int .i64 e) := A5.cell 4))
  go_ret
  have e1 : l ++ [110, 97, 110] ++ [40] ++ (d :: ds) ++ [41] = l ++ ([110, 97, 110] ++ 40 :: (d :: ds ++ [41])) := by simp
  rw [e1] at A5
  exact ⟨_, rfl, A5.own, A5.bel⟩
set_option maxHeartbeats 2000000 in
theorem appNaN_tn (Bs : Nat) (c : Int) (s : Bool) (e : Int) (v : Value) (l : List UInt8) (w : World) (hl : l.length < 100000) (hown : w.ownsRow Bs 5 1 v l.length (Lib.byteCells l)) (hb : Bs ≤ w.heap.size) :
    Calls Tryz.prog 116 #[v, PV c s true [] e] w fun x w' => ∃ v', x = .returned v' ∧ w'.ownsRow Bs 5 1 v' (l ++ (115 :: [110, 97, 110])).length (Lib.byteCells (l ++ (115 :: [110, 97, 110]))) ∧ Below Bs w w' := by
  have htl := B_toList
  obtain ⟨i0, hi, hz0, hz1, hz2⟩ := info_parts Tryz.info5
  unfold PV
  have A0 : Ap Bs w.heap.size (PC c s true [] e) v l w (w.alloc (.cells (PC c s true [] e) 57)) := Ap.start hown hb
  clear hown
  have k0_2 : (w.alloc (.cells (PC c s true [] e) 57)).cell? ⟨w.heap.size, 2, none⟩ = some (.bool true) := A0.cell 2
  go_enter Tryz.func116, Tryz.ntmps116
  go_wp2_with (first | (at_builtin; refine wpList_append_lies _ rfl (.tmp 7) (.tmp 8) 48 rfl Bs 5 i0 (.int .u8 0) 1 1 Tryz.underlying48 hi hz0 hz1 hz2 rfl (by decide) v (l).length (Lib.byteCells (l)) rfl (A0.alloc (.cells #[.int .u8 115] 5)).own ⟨w.heap.size + 1, 0, none⟩ 1 1 [.int .u8 115] rfl rfl (news1 _ _ _ (by simp)) (one1 _) (by decide) (by unfold maxLen; omega) (by omega) (A0.alloc (.cells #[.int .u8 115] 5)).bs _ rfl ?_; intro g1 cap1 w1 hown hgrow hat hlt; have A1 := (A0.alloc (.cells #[.int .u8 115] 5)).app (m := [115]) hgrow hown (by simp only [List.length_append, List.length_cons, List.length_nil]; try omega) (bc_one _ 115); clear hown hgrow hat hlt; generalize (Value.slice (some ⟨g1, 0, none⟩) ((l).length + 1) cap1) = v1 at *; have k1_0 : w1.cell? ⟨w.heap.size, 0, none⟩ = some (.int .i64 c) := A1.cell 0; have k1_1 : w1.cell? ⟨w.heap.size, 1, none⟩ = some (.bool s) := A1.cell 1; have k1_2 : w1.cell? ⟨w.heap.size, 2, none⟩ = some (.bool true) := A1.cell 2; have k1_3 : w1.cell? ⟨w.heap.size, 3, none⟩ = some (.string (B [])) := A1.cell 3; have k1_4 : w1.cell? ⟨w.heap.size, 4, none⟩ = some (.int .i64 e) := A1.cell 4) | (at_builtin; refine Lib.wpList_append_own_string _ rfl (.tmp 10) (.const (.string ⟨#[110, 97, 110]⟩)) 48 9 rfl Bs 5 i0 Tryz.underlying48 Tryz.underlying9 hi hz0 hz1 hz2 v1 (l ++ [115]).length (Lib.byteCells (l ++ [115])) rfl A1.own (B [110, 97, 110]) rfl (by rw [B_size]; unfold maxLen; simp only [List.length_append, List.length_cons, List.length_nil]; omega) (by rw [B_size]; simp only [List.length_append, List.length_cons, List.length_nil]; omega) A1.bs ?_; intro v2 w2 hown hgrow hq; have A2 := A1.app (m := [110, 97, 110]) hgrow hown (by simp only [B_size, List.length_append, List.length_cons, List.length_nil]; try omega) (bc_str _ _); clear hown hgrow hq; have k2_0 : w2.cell? ⟨w.heap.size, 0, none⟩ = some (.int .i64 c) := A2.cell 0; have k2_1 : w2.cell? ⟨w.heap.size, 1, none⟩ = some (.bool s) := A2.cell 1; have k2_2 : w2.cell? ⟨w.heap.size, 2, none⟩ = some (.bool true) := A2.cell 2; have k2_3 : w2.cell? ⟨w.heap.size, 3, none⟩ = some (.string (B [])) := A2.cell 3; have k2_4 : w2.cell? ⟨w.heap.size, 4, none⟩ = some (.int .i64 e) := A2.cell 4))
  go_ret
  have e1 : l ++ [115] ++ [110, 97, 110] = l ++ (115 :: [110, 97, 110]) := by simp
  rw [e1] at A2
  exact ⟨v2, rfl, A2.own, A2.bel⟩
set_option maxHeartbeats 2000000 in
theorem appNaN_tc (Bs : Nat) (c : Int) (s : Bool) (d : UInt8) (ds : List UInt8) (e : Int) (v : Value) (l : List UInt8) (w : World) (hl : l.length < 100000) (hown : w.ownsRow Bs 5 1 v l.length (Lib.byteCells l)) (hb : Bs ≤ w.heap.size) (hd : ds.length + 1 < 100000) :
    Calls Tryz.prog 116 #[v, PV c s true (d :: ds) e] w fun x w' => ∃ v', x = .returned v' ∧ w'.ownsRow Bs 5 1 v' (l ++ (115 :: [110, 97, 110] ++ 40 :: (d :: ds ++ [41]))).length (Lib.byteCells (l ++ (115 :: [110, 97, 110] ++ 40 :: (d :: ds ++ [41])))) ∧ Below Bs w w' := by
  have htl := B_toList
  obtain ⟨i0, hi, hz0, hz1, hz2⟩ := info_parts Tryz.info5
  unfold PV
  have A0 : Ap Bs w.heap.size (PC c s true (d :: ds) e) v l w (w.alloc (.cells (PC c s true (d :: ds) e) 57)) := Ap.start hown hb
  clear hown
  have k0_2 : (w.alloc (.cells (PC c s true (d :: ds) e) 57)).cell? ⟨w.heap.size, 2, none⟩ = some (.bool true) := A0.cell 2
  go_enter Tryz.func116, Tryz.ntmps116
  go_wp2_with (first | (at_builtin; refine wpList_append_lies _ rfl (.tmp 7) (.tmp 8) 48 rfl Bs 5 i0 (.int .u8 0) 1 1 Tryz.underlying48 hi hz0 hz1 hz2 rfl (by decide) v (l).length (Lib.byteCells (l)) rfl (A0.alloc (.cells #[.int .u8 115] 5)).own ⟨w.heap.size + 1, 0, none⟩ 1 1 [.int .u8 115] rfl rfl (news1 _ _ _ (by simp)) (one1 _) (by decide) (by unfold maxLen; omega) (by omega) (A0.alloc (.cells #[.int .u8 115] 5)).bs _ rfl ?_; intro g1 cap1 w1 hown hgrow hat hlt; have A1 := (A0.alloc (.cells #[.int .u8 115] 5)).app (m := [115]) hgrow hown (by simp only [List.length_append, List.length_cons, List.length_nil]; try omega) (bc_one _ 115); clear hown hgrow hat hlt; generalize (Value.slice (some ⟨g1, 0, none⟩) ((l).length + 1) cap1) = v1 at *; have k1_0 : w1.cell? ⟨w.heap.size, 0, none⟩ = some (.int .i64 c) := A1.cell 0; have k1_1 : w1.cell? ⟨w.heap.size, 1, none⟩ = some (.bool s) := A1.cell 1; have k1_2 : w1.cell? ⟨w.heap.size, 2, none⟩ = some (.bool true) := A1.cell 2; have k1_3 : w1.cell? ⟨w.heap.size, 3, none⟩ = some (.string (B (d :: ds))) := A1.cell 3; have k1_4 : w1.cell? ⟨w.heap.size, 4, none⟩ = some (.int .i64 e) := A1.cell 4) | (at_builtin; refine Lib.wpList_append_own_string _ rfl (.tmp 10) (.const (.string ⟨#[110, 97, 110]⟩)) 48 9 rfl Bs 5 i0 Tryz.underlying48 Tryz.underlying9 hi hz0 hz1 hz2 v1 (l ++ [115]).length (Lib.byteCells (l ++ [115])) rfl A1.own (B [110, 97, 110]) rfl (by rw [B_size]; unfold maxLen; simp only [List.length_append, List.length_cons, List.length_nil]; omega) (by rw [B_size]; simp only [List.length_append, List.length_cons, List.length_nil]; omega) A1.bs ?_; intro v2 w2 hown hgrow hq; have A2 := A1.app (m := [110, 97, 110]) hgrow hown (by simp only [B_size, List.length_append, List.length_cons, List.length_nil]; try omega) (bc_str _ _); clear hown hgrow hq; have k2_0 : w2.cell? ⟨w.heap.size, 0, none⟩ = some (.int .i64 c) := A2.cell 0; have k2_1 : w2.cell? ⟨w.heap.size, 1, none⟩ = some (.bool s) := A2.cell 1; have k2_2 : w2.cell? ⟨w.heap.size, 2, none⟩ = some (.bool true) := A2.cell 2; have k2_3 : w2.cell? ⟨w.heap.size, 3, none⟩ = some (.string (B (d :: ds))) := A2.cell 3; have k2_4 : w2.cell? ⟨w.heap.size, 4, none⟩ = some (.int .i64 e) := A2.cell 4) | (at_builtin; refine wpList_append_lies _ rfl (.tmp 15) (.tmp 16) 48 rfl Bs 5 i0 (.int .u8 0) 1 1 Tryz.underlying48 hi hz0 hz1 hz2 rfl (by decide) v2 (l ++ [115] ++ [110, 97, 110]).length (Lib.byteCells (l ++ [115] ++ [110, 97, 110])) rfl (A2.alloc (.cells #[.int .u8 40] 5)).own ⟨w2.heap.size, 0, none⟩ 1 1 [.int .u8 40] rfl rfl (news1 _ _ _ rfl) (one1 _) (by decide) (by unfold maxLen; simp only [List.length_append, List.length_cons, List.length_nil]; omega) (by simp only [List.length_append, List.length_cons, List.length_nil]; omega) (A2.alloc (.cells #[.int .u8 40] 5)).bs _ rfl ?_; intro g3 cap3 w3 hown hgrow hat hlt; have A3 := (A2.alloc (.cells #[.int .u8 40] 5)).app (m := [40]) hgrow hown (by simp only [List.length_append, List.length_cons, List.length_nil]; try omega) (bc_one _ 40); clear hown hgrow hat hlt; generalize (Value.slice (some ⟨g3, 0, none⟩) ((l ++ [115] ++ [110, 97, 110]).length + 1) cap3) = v3 at *; have k3_0 : w3.cell? ⟨w.heap.size, 0, none⟩ = some (.int .i64 c) := A3.cell 0; have k3_1 : w3.cell? ⟨w.heap.size, 1, none⟩ = some (.bool s) := A3.cell 1; have k3_2 : w3.cell? ⟨w.heap.size, 2, none⟩ = some (.bool true) := A3.cell 2; have k3_3 : w3.cell? ⟨w.heap.size, 3, none⟩ = some (.string (B (d :: ds))) := A3.cell 3; have k3_4 : w3.cell? ⟨w.heap.size, 4, none⟩ = some (.int .i64 e) := A3.cell 4) | (at_builtin; refine Lib.wpList_append_own_string _ rfl (.tmp 18) (.tmp 20) 48 9 rfl Bs 5 i0 Tryz.underlying48 Tryz.underlying9 hi hz0 hz1 hz2 v3 (l ++ [115] ++ [110, 97, 110] ++ [40]).length (Lib.byteCells (l ++ [115] ++ [110, 97, 110] ++ [40])) rfl A3.own (B (d :: ds)) rfl (by rw [B_size]; unfold maxLen; simp only [List.length_append, List.length_cons, List.length_nil]; omega) (by rw [B_size]; simp only [List.length_append, List.length_cons, List.length_nil]; omega) A3.bs ?_; intro v4 w4 hown hgrow hq; have A4 := A3.app (m := (d :: ds)) hgrow hown (by simp only [B_size, List.length_append, List.length_cons, List.length_nil]; try omega) (bc_str _ _); clear hown hgrow hq; have k4_0 : w4.cell? ⟨w.heap.size, 0, none⟩ = some (.int .i64 c) := A4.cell 0; have k4_1 : w4.cell? ⟨w.heap.size, 1, none⟩ = some (.bool s) := A4.cell 1; have k4_2 : w4.cell? ⟨w.heap.size, 2, none⟩ = some (.bool true) := A4.cell 2; have k4_3 : w4.cell? ⟨w.heap.size, 3, none⟩ = some (.string (B (d :: ds))) := A4.cell 3; have k4_4 : w4.cell? ⟨w.heap.size, 4, none⟩ = some (.int .i64 e) := A4.cell 4) | (at_builtin; refine wpList_append_lies _ rfl (.tmp 22) (.tmp 23) 48 rfl Bs 5 i0 (.int .u8 0) 1 1 Tryz.underlying48 hi hz0 hz1 hz2 rfl (by decide) v4 (l ++ [115] ++ [110, 97, 110] ++ [40] ++ (d :: ds)).length (Lib.byteCells (l ++ [115] ++ [110, 97, 110] ++ [40] ++ (d :: ds))) rfl (A4.alloc (.cells #[.int .u8 41] 5)).own ⟨w4.heap.size, 0, none⟩ 1 1 [.int .u8 41] rfl rfl (news1 _ _ _ rfl) (one1 _) (by decide) (by unfold maxLen; simp only [List.length_append, List.length_cons, List.length_nil]; omega) (by simp only [List.length_append, List.length_cons, List.length_nil]; omega) (A4.alloc (.cells #[.int .u8 41] 5)).bs _ rfl ?_; intro g5 cap5 w5 hown hgrow hat hlt; have A5 := (A4.alloc (.cells #[.int .u8 41] 5)).app (m := [41]) hgrow hown (by simp only [List.length_append, List.length_cons, List.length_nil]; try omega) (bc_one _ 41); clear hown hgrow hat hlt; generalize (Value.slice (some ⟨g5, 0, none⟩) ((l ++ [115] ++ [110, 97, 110] ++ [40] ++ (d :: ds)).length + 1) cap5) = v5 at *; have k5_0 : w5.cell? ⟨w.heap.size, 0, none⟩ = some (.int .i64 c) := A5.cell 0; have k5_1 : w5.cell? ⟨w.heap.size, 1, none⟩ = some (.bool s) := A5.cell 1; have k5_2 : w5.cell? ⟨w.heap.size, 2, none⟩ = some (.bool true) := A5.cell 2; have k5_3 : w5.cell? ⟨w.heap.size, 3, none⟩ = some (.string (B (d :: ds))) := A5.cell 3; have k5_4 : w5.cell? ⟨w.heap.size, 4, none⟩ = some (.int .i64 e) := A5.cell 4))
  go_ret
  have e1 : l ++ [115] ++ [110, 97, 110] ++ [40] ++ (d :: ds) ++ [41] = l ++ (115 :: [110, 97, 110] ++ 40 :: (d :: ds ++ [41])) := by simp
  rw [e1] at A5
  exact ⟨_, rfl, A5.own, A5.bel⟩
end
end Go.Proofs.YtpemdcnneabbfaaGreatDoor
