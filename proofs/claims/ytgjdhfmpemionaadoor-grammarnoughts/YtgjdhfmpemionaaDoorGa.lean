/-
  The digits ahead of a text, its sign, without its noughts: contracts of the program's and the document's.
-/
import Derived.Test.YtgjdhfmpemionaaDoorGm
import Derived.Deep.QuietTactic
import Derived.BigQuiet
import Derived.Lib.Strings
set_option linter.unusedVariables false
set_option linter.unusedSimpArgs false
namespace Go.Proofs.YtgjdhfmpemionaaDoor
open Go.RowKit

theorem bcell {W w1 : World} (hb : Below W.heap.size W w1) : (∀ b o, b < W.heap.size → w1.cell? ⟨b, o, none⟩ = W.cell? ⟨b, o, none⟩) ∧ (∀ b o, b < W.heap.size → w1.frozen? ⟨b, o, none⟩ = W.frozen? ⟨b, o, none⟩) :=
  ⟨fun b o h => hb.cell (p := ⟨b, o, none⟩) h, fun b o h => hb.frozen (p := ⟨b, o, none⟩) h⟩
theorem below_drewN {B : Nat} {a w : World} {m : Nat} (h : Below B a w) : Below B a (w.drewN m) := ⟨h.os, h.tape, h.output, h.size, h.block⟩
theorem bnext {w0 W W' : World} (h : Below w0.heap.size w0 W) (hb : Below W.heap.size W W') : Below w0.heap.size w0 W' := h.trans (hb.mono h.size)
theorem lt_below {n g : Nat} {W W' : World} (hb : Below n W W') (h : g < W.heap.size) : g < W'.heap.size := Nat.lt_of_lt_of_le h hb.size
theorem cell_set_map (W : World) (b i : Nat) (v : Value) : (W.setCell ⟨b, i, none⟩ v).cell? ⟨b, i, none⟩ = (W.cell? ⟨b, i, none⟩).map fun _ => v := by
  unfold World.cell? World.setCell
  simp only [Array.getElem?_modify, if_true]
  cases h : W.heap[b]? with
  | none => simp
  | some o =>
    cases o with
    | cells c e fr =>
      simp only [Option.map_some, Option.isSome_none, Bool.false_eq_true, if_false]
      by_cases hi : i < c.size
      · simp [hi]
      · simp [hi]
    | _ => simp
theorem B_toList (l : List UInt8) : (B l).toList = l := by rw [Lib.toList_data]; rfl

set_option maxHeartbeats 1000000 in
theorem ldig_any (l : List UInt8) (w : World) (hs : l.length < 4294967296) :
    Calls Tryd.prog 27 #[.string (B l)] w fun e w' => e = .returned (.tuple #[.string (B (dgs l)), .string (B (rst l))]) ∧ Below w.heap.size w w' := by
  have hsz := B_size l
  have E1 : (B l).extract 0 (dgs l).length = B (dgs l) := by rw [B_ext, List.drop_zero, take_dgs]
  have E2 : (B l).extract (dgs l).length (B l).size = B (rst l) := by rw [B_ext, B_size, List.take_length, drop_dgs]
  rw [hsz] at E2
  have hle := dgs_le l
  have HA : Hid (∀ i, i < (dgs l).length → 48 ≤ by_ l i ∧ by_ l i ≤ 57) := dgs_at l
  have HS : Hid ((dgs l).length < l.length → ¬ (48 ≤ by_ l (dgs l).length ∧ by_ l (dgs l).length ≤ 57)) := dgs_stop l
  generalize dgs l = d at *
  go_enter Tryd.func27, Tryd.ntmps27
  go_wp2
  go_loop [4] (fun i => ∃ k : Nat, k ≤ d.length ∧ i = .int .i64 k) (fun i => d.length - (intOf i).toNat)
  case atStart => exact ⟨0, Nat.zero_le _, rfl⟩
  case round =>
    obtain ⟨k, hk, rfl⟩ := hrel
    by_cases hlt : k < d.length
    · have hki : (k : Int) < (B l).size := by omega
      have hsb := by_lt (l := l) (i := k) (by omega)
      have hbd := HA.out k hlt
      go_wp2
      go_round
      case rel => exact ⟨k + 1, by omega, by go_num⟩
      case measure => simp [intOf]; omega
    · obtain rfl : k = d.length := by omega
      by_cases he : d.length < l.length
      · have hki : (d.length : Int) < (B l).size := by omega
        have hsb := by_lt (l := l) (i := d.length) (by omega)
        have hbd := by_bd l d.length
        have hst := HS.out he
        by_cases h1 : by_ l d.length < 48
        · go_wp2
          go_quiet (fail)
          go_wp2
          go_ret2
          exact ⟨rfl, below_drewN (Below.refl _ _)⟩
        · have h2 : 57 < by_ l d.length := by omega
          go_wp2
          go_quiet (fail)
          go_wp2
          go_ret2
          exact ⟨rfl, below_drewN (Below.refl _ _)⟩
      · have hki : (d.length : Int) = (B l).size := by omega
        have hki2 : (d.length : Int) = l.length := by omega
        have hdl : d.length = l.length := by omega
        have X1 : Hid (B d = (B l).extract 0 l.length) := by show _ = _; rw [← E1, hdl]
        have X2 : Hid (B (rst l) = ByteArray.empty) := by
          show _ = _
          rw [← E2, hdl, B_ext, List.take_length, List.drop_length]; rfl
        go_wp2
        go_quiet (fail)
        go_wp2
        go_ret2
        refine ⟨?_, below_drewN (Below.refl _ _)⟩
        rw [X1.out, X2.out]
        rfl
set_option maxHeartbeats 1000000 in
theorem run_any (l : List UInt8) (w : World) (hs : l.length < 4294967296) :
    Calls Tryd.prog 21 #[.string (B l)] w fun e w' => e = .returned (.tuple #[.string (B (dgs l)), .string (B (rst l))]) ∧ Below w.heap.size w w' := by
  have hsz := B_size l
  have E1 : (B l).extract 0 (dgs l).length = B (dgs l) := by rw [B_ext, List.drop_zero, take_dgs]
  have E2 : (B l).extract (dgs l).length (B l).size = B (rst l) := by rw [B_ext, B_size, List.take_length, drop_dgs]
  rw [hsz] at E2
  have hle := dgs_le l
  have HA : Hid (∀ i, i < (dgs l).length → 48 ≤ by_ l i ∧ by_ l i ≤ 57) := dgs_at l
  have HS : Hid ((dgs l).length < l.length → ¬ (48 ≤ by_ l (dgs l).length ∧ by_ l (dgs l).length ≤ 57)) := dgs_stop l
  generalize dgs l = d at *
  go_enter Tryd.func21, Tryd.ntmps21
  go_wp2
  go_loop [4] (fun i => ∃ k : Nat, k ≤ d.length ∧ i = .int .i64 k) (fun i => d.length - (intOf i).toNat)
  case atStart => exact ⟨0, Nat.zero_le _, rfl⟩
  case round =>
    obtain ⟨k, hk, rfl⟩ := hrel
    by_cases hlt : k < d.length
    · have hki : (k : Int) < (B l).size := by omega
      have hsb := by_lt (l := l) (i := k) (by omega)
      have hbd := HA.out k hlt
      go_wp2
      go_round
      case rel => exact ⟨k + 1, by omega, by go_num⟩
      case measure => simp [intOf]; omega
    · obtain rfl : k = d.length := by omega
      by_cases he : d.length < l.length
      · have hki : (d.length : Int) < (B l).size := by omega
        have hsb := by_lt (l := l) (i := d.length) (by omega)
        have hbd := by_bd l d.length
        have hst := HS.out he
        by_cases h1 : by_ l d.length < 48
        · go_wp2
          go_quiet (fail)
          go_wp2
          go_ret2
          exact ⟨rfl, below_drewN (Below.refl _ _)⟩
        · have h2 : 57 < by_ l d.length := by omega
          go_wp2
          go_quiet (fail)
          go_wp2
          go_ret2
          exact ⟨rfl, below_drewN (Below.refl _ _)⟩
      · have hki : (d.length : Int) = (B l).size := by omega
        have hki2 : (d.length : Int) = l.length := by omega
        have hdl : d.length = l.length := by omega
        have X1 : Hid (B d = (B l).extract 0 l.length) := by show _ = _; rw [← E1, hdl]
        have X2 : Hid (B (rst l) = ByteArray.empty) := by
          show _ = _
          rw [← E2, hdl, B_ext, List.take_length, List.drop_length]; rfl
        go_wp2
        go_quiet (fail)
        go_wp2
        go_ret2
        refine ⟨?_, below_drewN (Below.refl _ _)⟩
        rw [X1.out, X2.out]
        rfl
/-- the sign ahead, and what stands behind it -/
def sgB : List UInt8 → Bool
  | c :: _ => decide ((c.toNat : Int) = 45)
  | [] => false
def sgR : List UInt8 → List UInt8
  | c :: r => if (c.toNat : Int) = 45 ∨ (c.toNat : Int) = 43 then r else c :: r
  | [] => []
theorem B_tail (c : UInt8) (r : List UInt8) : (B (c :: r)).extract 1 (B (c :: r)).size = B r := by
  rw [B_ext, B_size, List.take_length]; rfl
theorem B_nil : B [] = ⟨#[]⟩ := rfl
set_option maxHeartbeats 1000000 in
theorem lsign_any (l : List UInt8) (w : World) (hs : l.length < 4294967296) :
    Calls Tryd.prog 16 #[.string (B l)] w fun e w' => e = .returned (.tuple #[.bool (sgB l), .string (B (sgR l))]) ∧ Below w.heap.size w w' := by
  have htl := B_toList
  cases l with
  | nil =>
    have hsz : (B []).size = 0 := rfl
    go_enter Tryd.func16, Tryd.ntmps16
    go_wp2
    go_ret2
    exact ⟨rfl, Below.refl _ _⟩
  | cons c r =>
    have hsz := B_size (c :: r)
    have hln : (c :: r).length = r.length + 1 := rfl
    have hbt := B_tail c r
    have hsb := by_lt (l := c :: r) (i := 0) (by rw [hsz, hln]; omega)
    rw [by_zero] at hsb
    rw [hsz, hln] at hbt
    have hbd := c.toNat_lt
    rw [List.length_cons] at hs
    by_cases h1 : (c.toNat : Int) = 45
    · have HX : Hid (sgR (c :: r) = r ∧ sgB (c :: r) = true) := ⟨if_pos (Or.inl h1), decide_eq_true h1⟩
      rw [HX.out.1, HX.out.2]
      go_enter Tryd.func16, Tryd.ntmps16
      go_wp2
      go_quiet (fail)
      go_wp2
      go_ret2
      exact ⟨rfl, below_drewN (Below.refl _ _)⟩
    · by_cases h2 : (c.toNat : Int) = 43
      · have HX : Hid (sgR (c :: r) = r ∧ sgB (c :: r) = false) := ⟨if_pos (Or.inr h2), decide_eq_false h1⟩
        rw [HX.out.1, HX.out.2]
        go_enter Tryd.func16, Tryd.ntmps16
        go_wp2
        go_quiet (fail)
        go_wp2
        go_ret2
        exact ⟨rfl, below_drewN (Below.refl _ _)⟩
      · have HX : Hid (sgR (c :: r) = c :: r ∧ sgB (c :: r) = false) := ⟨if_neg (by omega), decide_eq_false h1⟩
        rw [HX.out.1, HX.out.2]
        have g1 : ((c.toNat : Int) == 45) = false := beq_eq_false_iff_ne.2 h1
        have g2 : ((c.toNat : Int) == 43) = false := beq_eq_false_iff_ne.2 h2
        go_enter Tryd.func16, Tryd.ntmps16
        go_wp2
        go_ret2
        exact ⟨rfl, Below.refl _ _⟩
set_option maxHeartbeats 1000000 in
theorem sign_any (l : List UInt8) (w : World) (hs : l.length < 4294967296) :
    Calls Tryd.prog 19 #[.string (B l)] w fun e w' => e = .returned (.tuple #[.bool (sgB l), .string (B (sgR l))]) ∧ Below w.heap.size w w' := by
  have htl := B_toList
  cases l with
  | nil =>
    have hsz : (B []).size = 0 := rfl
    go_enter Tryd.func19, Tryd.ntmps19
    go_wp2
    go_ret2
    exact ⟨rfl, Below.refl _ _⟩
  | cons c r =>
    have hsz := B_size (c :: r)
    have hln : (c :: r).length = r.length + 1 := rfl
    have hbt := B_tail c r
    have hsb := by_lt (l := c :: r) (i := 0) (by rw [hsz, hln]; omega)
    rw [by_zero] at hsb
    rw [hsz, hln] at hbt
    have hbd := c.toNat_lt
    rw [List.length_cons] at hs
    by_cases h1 : (c.toNat : Int) = 45
    · have HX : Hid (sgR (c :: r) = r ∧ sgB (c :: r) = true) := ⟨if_pos (Or.inl h1), decide_eq_true h1⟩
      rw [HX.out.1, HX.out.2]
      go_enter Tryd.func19, Tryd.ntmps19
      go_wp2
      go_quiet (fail)
      go_wp2
      go_ret2
      exact ⟨rfl, below_drewN (Below.refl _ _)⟩
    · by_cases h2 : (c.toNat : Int) = 43
      · have HX : Hid (sgR (c :: r) = r ∧ sgB (c :: r) = false) := ⟨if_pos (Or.inr h2), decide_eq_false h1⟩
        rw [HX.out.1, HX.out.2]
        go_enter Tryd.func19, Tryd.ntmps19
        go_wp2
        go_quiet (fail)
        go_wp2
        go_ret2
        exact ⟨rfl, below_drewN (Below.refl _ _)⟩
      · have HX : Hid (sgR (c :: r) = c :: r ∧ sgB (c :: r) = false) := ⟨if_neg (by omega), decide_eq_false h1⟩
        rw [HX.out.1, HX.out.2]
        have g1 : ((c.toNat : Int) == 45) = false := beq_eq_false_iff_ne.2 h1
        have g2 : ((c.toNat : Int) == 43) = false := beq_eq_false_iff_ne.2 h2
        go_enter Tryd.func19, Tryd.ntmps19
        go_wp2
        go_ret2
        exact ⟨rfl, Below.refl _ _⟩
/-- without noughts ahead -/
def bar (l : List UInt8) : List UInt8 := l.dropWhile (· == 48)
theorem bar_cons (c : UInt8) (r : List UInt8) : bar (c :: r) = if (c.toNat : Int) = 48 then bar r else c :: r := by
  unfold bar
  rw [List.dropWhile_cons]
  by_cases h : c = 48
  · subst h; rfl
  · have : ¬ (c.toNat : Int) = 48 := fun e => h (UInt8.toNat_inj.1 (by simpa using (show c.toNat = 48 by omega)))
    rw [if_neg this, if_neg (by simpa using h)]
set_option maxHeartbeats 1000000 in
theorem bare_any (l : List UInt8) (w : World) (hs : l.length < 4294967296) :
    Calls Tryd.prog 23 #[.string (B l)] w fun e w' => e = .returned (.string (B (bar l))) ∧ Below w.heap.size w w' := by
  go_enter Tryd.func23, Tryd.ntmps23
  go_wp2
  go_loop [0] (fun s => ∃ r : List UInt8, r.length ≤ l.length ∧ s = .string (B r) ∧ bar r = bar l) (fun s => match s with | .string u => u.size | _ => 0)
  case atStart => exact ⟨l, Nat.le_refl _, rfl, rfl⟩
  case round =>
    obtain ⟨r, hr, rfl, hb⟩ := hrel
    cases r with
    | nil =>
      have hsz : (B []).size = 0 := rfl
      have HB : Hid (B (bar l) = B []) := by show _ = _; rw [← hb]; rfl
      clear hb
      go_wp2
      go_ret
      exact ⟨by rw [HB.out]; rfl, Below.refl _ _⟩
    | cons c r =>
      have hsz := B_size (c :: r)
      have hln : (c :: r).length = r.length + 1 := rfl
      have hbt := B_tail c r
      have hsb := by_lt (l := c :: r) (i := 0) (by rw [hsz, hln]; omega)
      rw [by_zero] at hsb
      rw [hsz, hln] at hbt
      have hbd := c.toNat_lt
      rw [hln] at hr
      rw [bar_cons] at hb
      by_cases h1 : (c.toNat : Int) = 48
      · rw [if_pos h1] at hb
        have HB : Hid (bar r = bar l) := hb
        clear hb
        go_wp2
        go_round
        case rel => exact ⟨r, by omega, rfl, HB.out⟩
        case measure => show (B r).size < (B (c :: r)).size; rw [hsz, B_size, hln]; omega
      · rw [if_neg h1] at hb
        have HB : Hid (c :: r = bar l) := hb
        clear hb
        go_wp2
        go_ret
        exact ⟨by rw [← HB.out]; rfl, Below.refl _ _⟩
/-- are all digits? -/
def isd (l : List UInt8) : Bool := l.all dg && !l.isEmpty
theorem all_dg (l : List UInt8) : l.all dg = true ↔ ∀ i, i < l.length → 48 ≤ by_ l i ∧ by_ l i ≤ 57 := by
  rw [List.all_eq_true]
  constructor
  · intro h i hi
    have := h _ (List.getElem_mem hi)
    unfold dg at this; simp at this
    unfold by_; rw [dif_pos hi]; omega
  · intro h c hc
    obtain ⟨i, hi, rfl⟩ := List.getElem_of_mem hc
    have := h i hi
    unfold by_ at this; rw [dif_pos hi] at this
    unfold dg; simp; omega
set_option maxHeartbeats 1000000 in
theorem isd_any (l : List UInt8) (w : World) (hs : l.length < 4294967296) :
    Calls Tryd.prog 34 #[.string (B l)] w fun e w' => e = .returned (.bool (isd l)) ∧ Below w.heap.size w w' := by
  have hsz := B_size l
  have HN : Hid (∀ k, k < l.length → ¬ (48 ≤ by_ l k ∧ by_ l k ≤ 57) → isd l = false) := fun k hk hn => by
    unfold isd
    have : ¬ l.all dg = true := fun h => hn ((all_dg l).1 h k hk)
    simp at this ⊢
    exact fun h => absurd h (by simpa using this)
  have HY : Hid ((∀ k, k < l.length → 48 ≤ by_ l k ∧ by_ l k ≤ 57) → isd l = decide (0 < l.length)) := fun h => by
    unfold isd
    rw [(all_dg l).2 h]
    cases l <;> simp
  go_enter Tryd.func34, Tryd.ntmps34
  go_wp2
  go_loop [3] (fun i => ∃ k : Nat, k ≤ l.length ∧ i = .int .i64 k ∧ Hid (∀ j, j < k → 48 ≤ by_ l j ∧ by_ l j ≤ 57)) (fun i => l.length - (intOf i).toNat)
  case atStart => exact ⟨0, Nat.zero_le _, rfl, fun j h => by omega⟩
  case round =>
    obtain ⟨k, hk, rfl, hd⟩ := hrel
    by_cases hlt : k < l.length
    · have hki : (k : Int) < (B l).size := by omega
      have hki2 : (k : Int) < l.length := by omega
      have hsb := by_lt (l := l) (i := k) (by omega)
      have hbd := by_bd l k
      by_cases h1 : by_ l k < 48
      · have HF : Hid (isd l = false) := HN.out k hlt (by omega)
        go_wp2
        go_ret
        exact ⟨by rw [HF.out]; rfl, Below.refl _ _⟩
      · by_cases h2 : 57 < by_ l k
        · have HF : Hid (isd l = false) := HN.out k hlt (by omega)
          go_wp2
          go_ret
          exact ⟨by rw [HF.out]; rfl, Below.refl _ _⟩
        · go_wp2
          go_round
          case rel => exact ⟨k + 1, by omega, by go_num, fun j hj => by rcases Nat.lt_or_ge j k with h | h
                                                                        · exact hd.out j h
                                                                        · obtain rfl : j = k := by omega
                                                                          omega⟩
          case measure => simp [intOf]; omega
    · obtain rfl : k = l.length := by omega
      have HF : Hid (isd l = decide (0 < l.length)) := HY.out hd.out
      go_wp2
      go_ret
      refine ⟨?_, Below.refl _ _⟩
      rw [HF.out]
      simp
end Go.Proofs.YtgjdhfmpemionaaDoor
