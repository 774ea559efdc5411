/-
  Texts that the proof leans on.
-/
import Derived.Test.YtpemdcnneabbfaaGreatDoorProg
import Derived.WalkKit
import Derived.RowKit
import Derived.Deep.QuietTactic
import Derived.BigQuiet
import Derived.Lib.Strings
set_option linter.unusedVariables false
set_option linter.unusedSimpArgs false
set_option linter.unusedSectionVars false
set_option maxRecDepth 20000
namespace Go.Proofs.YtpemdcnneabbfaaGreatDoor
open Go.RowKit
/-- a text of these bytes -/
def B (l : List UInt8) : ByteArray := ⟨l.toArray⟩
theorem B_of (s : ByteArray) : B s.data.toList = s := by cases s; rfl
theorem B_size (l : List UInt8) : (B l).size = l.length := rfl
theorem B_get {l : List UInt8} {i : Nat} (h : i < (B l).size) : (B l)[i]'h = l[i]'(by rwa [B_size] at h) := by
  show (B l).data[i]'_ = _
  simp [B]
theorem B_ext (l : List UInt8) (a b : Nat) : (B l).extract a b = B ((l.take b).drop a) := by
  apply ByteArray.ext
  rw [ByteArray.data_extract]
  show l.toArray.extract a b = ((l.take b).drop a).toArray
  rw [List.extract_toArray, List.extract_eq_take_drop, List.drop_take]
theorem B_app (a b : List UInt8) : B a ++ B b = B (a ++ b) := by
  apply ByteArray.ext
  rw [ByteArray.data_append]
  show a.toArray ++ b.toArray = (a ++ b).toArray
  simp
/-- byte i -/
def by_ (l : List UInt8) (i : Nat) : Int := if h : i < l.length then ((l[i]'h).toNat : Int) else 0
theorem by_lt {l : List UInt8} {i : Nat} (h : i < (B l).size) : (((B l)[i]'h).toNat : Int) = by_ l i := by
  rw [B_get h]; unfold by_; rw [dif_pos (by rwa [B_size] at h)]
theorem by_bd (l : List UInt8) (i : Nat) : 0 ≤ by_ l i ∧ by_ l i ≤ 255 := by
  unfold by_; split
  · rename_i h; have := (l[i]'h).toNat_lt; omega
  · omega
theorem by_succ (c : UInt8) (r : List UInt8) (i : Nat) : by_ (c :: r) (i + 1) = by_ r i := by
  unfold by_
  by_cases h : i < r.length
  · rw [dif_pos h, dif_pos (by simpa using h)]; rfl
  · rw [dif_neg h, dif_neg (by simpa using h)]
theorem by_zero (c : UInt8) (r : List UInt8) : by_ (c :: r) 0 = (c.toNat : Int) := by simp [by_]
/-- a digit -/
def dg (c : UInt8) : Bool := decide (48 ≤ c.toNat ∧ c.toNat ≤ 57)
/-- the digits ahead -/
def dgs (l : List UInt8) : List UInt8 := l.takeWhile dg
def rst (l : List UInt8) : List UInt8 := l.dropWhile dg
theorem dgs_rst (l : List UInt8) : dgs l ++ rst l = l := List.takeWhile_append_dropWhile
theorem dgs_le (l : List UInt8) : (dgs l).length ≤ l.length := by
  have := congrArg List.length (dgs_rst l)
  rw [List.length_append] at this; omega
theorem take_dgs (l : List UInt8) : l.take (dgs l).length = dgs l := by
  conv => lhs; arg 2; rw [← dgs_rst l]
  simp
theorem drop_dgs (l : List UInt8) : l.drop (dgs l).length = rst l := by
  conv => lhs; arg 2; rw [← dgs_rst l]
  simp
theorem dgs_at : ∀ (l : List UInt8) (i : Nat), i < (dgs l).length → 48 ≤ by_ l i ∧ by_ l i ≤ 57
  | [], i, h => by simp [dgs] at h
  | c :: r, i, h => by
    unfold dgs at h
    rw [List.takeWhile_cons] at h
    split at h
    · rename_i hc
      unfold dg at hc
      simp at hc
      cases i with
      | zero => simp [by_]; omega
      | succ i =>
        have := dgs_at r i (by simpa [dgs] using h)
        rw [by_succ]
        exact this
    · simp at h
theorem dgs_stop : ∀ (l : List UInt8), (dgs l).length < l.length → ¬ (48 ≤ by_ l (dgs l).length ∧ by_ l (dgs l).length ≤ 57)
  | [], h => by simp [dgs] at h
  | c :: r, h => by
    unfold dgs at h ⊢
    rw [List.takeWhile_cons] at h ⊢
    split at h
    · rename_i hc
      rw [if_pos hc]
      have := dgs_stop r (by simpa [dgs] using h)
      rw [List.length_cons, by_succ]
      exact this
    · rename_i hc
      rw [if_neg hc]
      unfold dg at hc
      simp at hc
      simp [by_]
      intro h1
      omega
section
theorem gbcell {W w1 : World} (hb : Below W.heap.size W w1) : (∀ b o, b < W.heap.size → w1.cell? ⟨b, o, none⟩ = W.cell? ⟨b, o, none⟩) ∧ (∀ b o, b < W.heap.size → w1.frozen? ⟨b, o, none⟩ = W.frozen? ⟨b, o, none⟩) :=
  ⟨fun b o h => hb.cell (p := ⟨b, o, none⟩) h, fun b o h => hb.frozen (p := ⟨b, o, none⟩) h⟩
theorem gbelow_drewN {B : Nat} {a w : World} {m : Nat} (h : Below B a w) : Below B a (w.drewN m) := ⟨h.os, h.tape, h.output, h.size, h.block⟩
theorem gbnext {w0 W W' : World} (h : Below w0.heap.size w0 W) (hb : Below W.heap.size W W') : Below w0.heap.size w0 W' := h.trans (hb.mono h.size)
theorem glt_below {n g : Nat} {W W' : World} (hb : Below n W W') (h : g < W.heap.size) : g < W'.heap.size := Nat.lt_of_lt_of_le h hb.size
theorem gcell_set_map (W : World) (b i : Nat) (v : Value) : (W.setCell ⟨b, i, none⟩ v).cell? ⟨b, i, none⟩ = (W.cell? ⟨b, i, none⟩).map fun _ => v := by
  unfold World.cell? World.setCell
  simp only [Array.getElem?_modify, if_true]
  cases h : W.heap[b]? with
  | none => simp
  | some o =>
    cases o with
    | cells c e fr =>
      simp only [Option.map_some, Option.isSome_none, Bool.false_eq_true, if_false]
      by_cases hi : i < c.size
      · simp [hi]
      · simp [hi]
    | _ => simp
theorem B_toList (l : List UInt8) : (B l).toList = l := by rw [Lib.toList_data]; rfl

set_option maxHeartbeats 1000000 in
theorem ldig_any (l : List UInt8) (w : World) (hs : l.length < 4294967296) :
    Calls Tryz.prog 78 #[.string (B l)] w fun e w' => e = .returned (.tuple #[.string (B (dgs l)), .string (B (rst l))]) ∧ Below w.heap.size w w' := by
  have hsz := B_size l
  have E1 : (B l).extract 0 (dgs l).length = B (dgs l) := by rw [B_ext, List.drop_zero, take_dgs]
  have E2 : (B l).extract (dgs l).length (B l).size = B (rst l) := by rw [B_ext, B_size, List.take_length, drop_dgs]
  rw [hsz] at E2
  have hle := dgs_le l
  have HA : Hid (∀ i, i < (dgs l).length → 48 ≤ by_ l i ∧ by_ l i ≤ 57) := dgs_at l
  have HS : Hid ((dgs l).length < l.length → ¬ (48 ≤ by_ l (dgs l).length ∧ by_ l (dgs l).length ≤ 57)) := dgs_stop l
  generalize dgs l = d at *
  go_enter Tryz.func78, Tryz.ntmps78
  go_wp2
  go_loop [4] (fun i => ∃ k : Nat, k ≤ d.length ∧ i = .int .i64 k) (fun i => d.length - (intOf i).toNat)
  case atStart => exact ⟨0, Nat.zero_le _, rfl⟩
  case round =>
    obtain ⟨k, hk, rfl⟩ := hrel
    by_cases hlt : k < d.length
    · have hki : (k : Int) < (B l).size := by omega
      have hsb := by_lt (l := l) (i := k) (by omega)
      have hbd := HA.out k hlt
      go_wp2
      go_round
      case rel => exact ⟨k + 1, by omega, by go_num⟩
      case measure => simp [intOf]; omega
    · obtain rfl : k = d.length := by omega
      by_cases he : d.length < l.length
      · have hki : (d.length : Int) < (B l).size := by omega
        have hsb := by_lt (l := l) (i := d.length) (by omega)
        have hbd := by_bd l d.length
        have hst := HS.out he
        by_cases h1 : by_ l d.length < 48
        · go_wp2
          go_quiet (fail)
          go_wp2
          go_ret2
          exact ⟨rfl, gbelow_drewN (Below.refl _ _)⟩
        · have h2 : 57 < by_ l d.length := by omega
          go_wp2
          go_quiet (fail)
          go_wp2
          go_ret2
          exact ⟨rfl, gbelow_drewN (Below.refl _ _)⟩
      · have hki : (d.length : Int) = (B l).size := by omega
        have hki2 : (d.length : Int) = l.length := by omega
        have hdl : d.length = l.length := by omega
        have X1 : Hid (B d = (B l).extract 0 l.length) := by show _ = _; rw [← E1, hdl]
        have X2 : Hid (B (rst l) = ByteArray.empty) := by
          show _ = _
          rw [← E2, hdl, B_ext, List.take_length, List.drop_length]; rfl
        go_wp2
        go_quiet (fail)
        go_wp2
        go_ret2
        refine ⟨?_, gbelow_drewN (Below.refl _ _)⟩
        rw [X1.out, X2.out]
        rfl
/-- the sign ahead, and what stands behind it -/
def gsgB : List UInt8 → Bool
  | c :: _ => decide ((c.toNat : Int) = 45)
  | [] => false
def sgR : List UInt8 → List UInt8
  | c :: r => if (c.toNat : Int) = 45 ∨ (c.toNat : Int) = 43 then r else c :: r
  | [] => []
theorem B_tail (c : UInt8) (r : List UInt8) : (B (c :: r)).extract 1 (B (c :: r)).size = B r := by
  rw [B_ext, B_size, List.take_length]; rfl
set_option maxHeartbeats 1000000 in
theorem lsign_any (l : List UInt8) (w : World) (hs : l.length < 4294967296) :
    Calls Tryz.prog 42 #[.string (B l)] w fun e w' => e = .returned (.tuple #[.bool (gsgB l), .string (B (sgR l))]) ∧ Below w.heap.size w w' := by
  have htl := B_toList
  cases l with
  | nil =>
    have hsz : (B []).size = 0 := rfl
    go_enter Tryz.func42, Tryz.ntmps42
    go_wp2
    go_ret2
    exact ⟨rfl, Below.refl _ _⟩
  | cons c r =>
    have hsz := B_size (c :: r)
    have hln : (c :: r).length = r.length + 1 := rfl
    have hbt := B_tail c r
    have hsb := by_lt (l := c :: r) (i := 0) (by rw [hsz, hln]; omega)
    rw [by_zero] at hsb
    rw [hsz, hln] at hbt
    have hbd := c.toNat_lt
    rw [List.length_cons] at hs
    by_cases h1 : (c.toNat : Int) = 45
    · have HX : Hid (sgR (c :: r) = r ∧ gsgB (c :: r) = true) := ⟨if_pos (Or.inl h1), decide_eq_true h1⟩
      rw [HX.out.1, HX.out.2]
      go_enter Tryz.func42, Tryz.ntmps42
      go_wp2
      go_quiet (fail)
      go_wp2
      go_ret2
      exact ⟨rfl, gbelow_drewN (Below.refl _ _)⟩
    · by_cases h2 : (c.toNat : Int) = 43
      · have HX : Hid (sgR (c :: r) = r ∧ gsgB (c :: r) = false) := ⟨if_pos (Or.inr h2), decide_eq_false h1⟩
        rw [HX.out.1, HX.out.2]
        go_enter Tryz.func42, Tryz.ntmps42
        go_wp2
        go_quiet (fail)
        go_wp2
        go_ret2
        exact ⟨rfl, gbelow_drewN (Below.refl _ _)⟩
      · have HX : Hid (sgR (c :: r) = c :: r ∧ gsgB (c :: r) = false) := ⟨if_neg (by omega), decide_eq_false h1⟩
        rw [HX.out.1, HX.out.2]
        have g1 : ((c.toNat : Int) == 45) = false := beq_eq_false_iff_ne.2 h1
        have g2 : ((c.toNat : Int) == 43) = false := beq_eq_false_iff_ne.2 h2
        go_enter Tryz.func42, Tryz.ntmps42
        go_wp2
        go_ret2
        exact ⟨rfl, Below.refl _ _⟩
/-- without noughts ahead -/
def bar (l : List UInt8) : List UInt8 := l.dropWhile (· == 48)
theorem bar_cons (c : UInt8) (r : List UInt8) : bar (c :: r) = if (c.toNat : Int) = 48 then bar r else c :: r := by
  unfold bar
  rw [List.dropWhile_cons]
  by_cases h : c = 48
  · subst h; rfl
  · have : ¬ (c.toNat : Int) = 48 := fun e => h (UInt8.toNat_inj.1 (by simpa using (show c.toNat = 48 by omega)))
    rw [if_neg this, if_neg (by simpa using h)]
/-- are all digits? -/
def isd (l : List UInt8) : Bool := l.all dg && !l.isEmpty
theorem all_dg (l : List UInt8) : l.all dg = true ↔ ∀ i, i < l.length → 48 ≤ by_ l i ∧ by_ l i ≤ 57 := by
  rw [List.all_eq_true]
  constructor
  · intro h i hi
    have := h _ (List.getElem_mem hi)
    unfold dg at this; simp at this
    unfold by_; rw [dif_pos hi]; omega
  · intro h c hc
    obtain ⟨i, hi, rfl⟩ := List.getElem_of_mem hc
    have := h i hi
    unfold by_ at this; rw [dif_pos hi] at this
    unfold dg; simp; omega
end
section
/-- the number of digits -/
def nv (l : List UInt8) : Int := l.foldl (fun v c => 10 * v + ((c.toNat : Int) - 48)) 0
theorem nv_fold (l : List UInt8) : ∀ v : Int, l.foldl (fun v c => 10 * v + ((c.toNat : Int) - 48)) v = v * 10 ^ l.length + nv l := by
  induction l with
  | nil => intro v; simp [nv]
  | cons c r ih =>
    intro v
    unfold nv
    rw [List.foldl_cons, List.foldl_cons, ih, ih (10 * 0 + _), List.length_cons, Int.pow_succ]
    grind
theorem nv_app (a b : List UInt8) : nv (a ++ b) = nv a * 10 ^ b.length + nv b := by
  unfold nv
  rw [List.foldl_append, nv_fold b]
  rfl
theorem gnv_one (c : UInt8) : nv [c] = (c.toNat : Int) - 48 := by simp [nv]
theorem take_snoc {l : List UInt8} {k : Nat} (h : k < l.length) : l.take (k + 1) = l.take k ++ [l[k]] := List.take_succ_eq_append_getElem h
theorem nv_take {l : List UInt8} {k : Nat} (h : k < l.length) : nv (l.take (k + 1)) = 10 * nv (l.take k) + (by_ l k - 48) := by
  rw [take_snoc h, nv_app, gnv_one]
  unfold by_; rw [dif_pos h]
  simp; omega
theorem nv_nn {l : List UInt8} (h : l.all dg = true) : 0 ≤ nv l ∧ nv l < 10 ^ l.length := by
  have key : ∀ k, k ≤ l.length → 0 ≤ nv (l.take k) ∧ nv (l.take k) < 10 ^ k := by
    intro k
    induction k with
    | zero => intro _; simp [nv]
    | succ k ih =>
      intro hk
      have h1 := ih (by omega)
      have h2 := (all_dg l).1 h k (by omega)
      rw [nv_take (by omega), Int.pow_succ]
      omega
  have := key l.length (Nat.le_refl _)
  rwa [List.take_length] at this
theorem nv_take_nn {l : List UInt8} (h : l.all dg = true) (k : Nat) : 0 ≤ nv (l.take k) :=
  (nv_nn (l := l.take k) (List.all_eq_true.2 fun c hc => List.all_eq_true.1 h c (List.mem_of_mem_take hc))).1
/-- the number of digits, or two thousand millions -/
def vc (l : List UInt8) : Int := min (nv l) 2000000000
set_option maxHeartbeats 1000000 in
theorem value_any (l : List UInt8) (w : World) (hs : l.length < 4294967296) (hd : l.all dg = true) :
    Calls Tryz.prog 113 #[.string (B l)] w fun e w' => e = .returned (.int .i64 (vc l)) ∧ Below w.heap.size w w' := by
  have hsz := B_size l
  have HD : Hid (l.all dg = true) := hd
  have HA : Hid (∀ i, i < l.length → 48 ≤ by_ l i ∧ by_ l i ≤ 57) := (all_dg l).1 hd
  clear hd
  go_enter Tryz.func113, Tryz.ntmps113
  go_wp2
  go_loop [3, 4, 7] (fun v u4 i => ∃ (k : Nat) (x : Int), k ≤ l.length ∧ i = .int .i64 k ∧ v = .int .i64 x ∧ 0 ≤ x ∧ x ≤ 2000000000 ∧ Hid (x = vc (l.take k))) (fun _ _ i => l.length - (intOf i).toNat)
  case atStart => exact ⟨0, 0, Nat.zero_le _, rfl, rfl, by decide, by decide, rfl⟩
  case round =>
    obtain ⟨k, x, hk, rfl, rfl, hx0, hx1, hx⟩ := hrel
    by_cases hlt : k < l.length
    · have hki : (k : Int) < (B l).size := by omega
      have hki2 : (k : Int) < l.length := by omega
      have hsb := by_lt (l := l) (i := k) (by omega)
      have hbd := HA.out k hlt
      have HX : Hid (min (10 * x + (by_ l k - 48)) 2000000000 = vc (l.take (k + 1))) := by
        show _ = _
        have h0 := nv_take_nn HD.out k
        rw [hx.out]; unfold vc; rw [nv_take hlt]
        omega
      go_wp2
      go_round
      case rel => exact ⟨k + 1, min (10 * x + (by_ l k - 48)) 2000000000, by omega, by go_num, by go_num, by omega, by omega, HX.out⟩
      case measure => simp [intOf]; omega
    · obtain rfl : k = l.length := by omega
      rw [List.take_length] at hx
      go_wp2
      go_ret
      exact ⟨by rw [← hx.out]; rfl, Below.refl _ _⟩
end
section
theorem all_dgs (l : List UInt8) : (dgs l).all dg = true := List.all_takeWhile
theorem rst_nil {l : List UInt8} (h : rst l = []) : dgs l = l := by
  have := dgs_rst l; rw [h, List.append_nil] at this; exact this
theorem rst_of_all {l : List UInt8} (h : l.all dg = true) : rst l = [] ∧ dgs l = l := by
  have : dgs l = l := by
    induction l with
    | nil => rfl
    | cons c r ih =>
      rw [List.all_cons, Bool.and_eq_true] at h
      unfold dgs at ih ⊢
      rw [List.takeWhile_cons, if_pos h.1, ih h.2]
  refine ⟨?_, this⟩
  have e := dgs_rst l
  rw [this] at e
  simpa using e
theorem isd_iff (l : List UInt8) : isd l = true ↔ dgs l ≠ [] ∧ rst l = [] := by
  unfold isd
  simp only [Bool.and_eq_true, Bool.not_eq_true', List.isEmpty_eq_false_iff]
  constructor
  · rintro ⟨h1, h2⟩
    obtain ⟨a, b⟩ := rst_of_all h1
    exact ⟨by rw [b]; exact h2, a⟩
  · rintro ⟨h1, h2⟩
    have := rst_nil h2
    rw [this] at h1
    exact ⟨by rw [← this]; exact all_dgs l, h1⟩
theorem sgR_le (l : List UInt8) : (sgR l).length ≤ l.length := by
  cases l with
  | nil => exact Nat.le_refl _
  | cons c r =>
    show (if _ then r else c :: r).length ≤ _
    split <;> simp
theorem rst_le (l : List UInt8) : (rst l).length ≤ l.length := by
  have := congrArg List.length (dgs_rst l)
  rw [List.length_append] at this; omega
/-- is it an exponent's text, and which -/
def exB : List UInt8 → Bool
  | [] => true
  | c :: r => decide ((c.toNat : Int) = 101 ∨ (c.toNat : Int) = 69) && isd (sgR r)
def exS (r : List UInt8) : Int := if gsgB r then - vc (sgR r) else vc (sgR r)
def exI : List UInt8 → Int
  | [] => 0
  | c :: r => if exB (c :: r) then exS r else 0
theorem vc_bd {l : List UInt8} (h : l.all dg = true) : 0 ≤ vc l ∧ vc l ≤ 2000000000 := by
  have := (nv_nn h).1
  unfold vc; omega
set_option maxHeartbeats 1000000 in
theorem exponent_e (c : UInt8) (r : List UInt8) (w : World) (hs : r.length < 4294967290) (hc : (c.toNat : Int) = 101 ∨ (c.toNat : Int) = 69) :
    Calls Tryz.prog 80 #[.string (B (c :: r))] w fun e w' => e = .returned (.tuple #[.int .i64 (if isd (sgR r) then exS r else 0), .bool (isd (sgR r))]) ∧ Below w.heap.size w w' := by
  have htl := B_toList
  have hsz := B_size (c :: r)
  have hln : (c :: r).length = r.length + 1 := rfl
  have hbt := B_tail c r
  have hsb := by_lt (l := c :: r) (i := 0) (by rw [hsz, hln]; omega)
  rw [by_zero] at hsb
  rw [hsz, hln] at hbt
  have c16 := fun w => lsign_any r w (by omega)
  have hsl := sgR_le r
  have c27 := fun w => ldig_any (sgR r) w (by omega)
  have hdl := dgs_le (sgR r)
  have g1 : ((c.toNat : Int) != 101 && (c.toNat : Int) != 69) = false := by
    rcases hc with h | h <;> rw [h] <;> rfl
  have g0 := c.toNat_lt
  by_cases hi : isd (sgR r) = true
  · have hi2 := (isd_iff _).1 hi
    have c40 := fun w => value_any (dgs (sgR r)) w (by omega) (all_dgs _)
    have hvb := vc_bd (all_dgs (sgR r))
    have HE : Hid (exS r = if gsgB r then - vc (dgs (sgR r)) else vc (dgs (sgR r))) := by show _ = _; unfold exS; rw [rst_nil hi2.2]
    rw [if_pos hi, hi]
    rw [hi2.2] at c27
    have HN := hi2.1
    clear hi hi2
    generalize dgs (sgR r) = D at *
    cases D with
    | nil => exact absurd rfl HN
    | cons d ds =>
      clear HN
      generalize sgR r = X at *
      generalize exS r = E at *
      have hb : ∀ z : Bool, gsgB r = z → Calls Tryz.prog 80 #[.string (B (c :: r))] w fun e w' => e = .returned (.tuple #[.int .i64 E, .bool true]) ∧ Below w.heap.size w w' := by
        intro z hz
        rw [hz] at c16 HE
        clear hz
        cases z
        all_goals
          simp only [Bool.false_eq_true, if_true, if_false] at HE
          rcases hc with h | h
          all_goals
            rw [HE.out]; clear HE
            go_enter Tryz.func80, Tryz.ntmps80
            go_wp2_with (first
              | (go_at_call 42; refine (c16 _).mono ?_; rintro x w1 ⟨rfl, hb1⟩)
              | (go_at_call 78; refine (c27 _).mono ?_; rintro x w2 ⟨rfl, hb2⟩)
              | (go_at_call 113; refine (c40 _).mono ?_; rintro x w3 ⟨rfl, hb3⟩))
            go_ret2
            exact ⟨rfl, gbnext (gbnext hb1 hb2) hb3⟩
      exact hb _ rfl
  · have hi0 : isd (sgR r) = false := by simpa using hi
    rw [if_neg hi, hi0]
    have HN : ¬ (dgs (sgR r) ≠ [] ∧ rst (sgR r) = []) := fun h => hi ((isd_iff _).2 h)
    clear hi hi0
    generalize dgs (sgR r) = D at *
    generalize rst (sgR r) = R at *
    generalize sgR r = X at *
    have hb : ∀ (k : c.toNat = 101 ∨ c.toNat = 69), Calls Tryz.prog 80 #[.string (B (c :: r))] w fun e w' => e = .returned (.tuple #[.int .i64 0, .bool false]) ∧ Below w.heap.size w w' := by
      intro _
      cases D with
      | nil =>
        clear HN
        rcases hc with h | h
        all_goals
          go_enter Tryz.func80, Tryz.ntmps80
          go_wp2_with (first
            | (go_at_call 42; refine (c16 _).mono ?_; rintro x w1 ⟨rfl, hb1⟩)
            | (go_at_call 78; refine (c27 _).mono ?_; rintro x w2 ⟨rfl, hb2⟩))
          go_ret2
          exact ⟨rfl, gbnext hb1 hb2⟩
      | cons d ds =>
        cases R with
        | nil => exact absurd ⟨by simp, rfl⟩ HN
        | cons q qs =>
          clear HN
          rcases hc with h | h
          all_goals
            go_enter Tryz.func80, Tryz.ntmps80
            go_wp2_with (first
              | (go_at_call 42; refine (c16 _).mono ?_; rintro x w1 ⟨rfl, hb1⟩)
              | (go_at_call 78; refine (c27 _).mono ?_; rintro x w2 ⟨rfl, hb2⟩))
            go_ret2
            exact ⟨rfl, gbnext hb1 hb2⟩
    exact hb (by omega)
set_option maxHeartbeats 1000000 in
theorem exponent_any (l : List UInt8) (w : World) (hs : l.length < 4294967290) :
    Calls Tryz.prog 80 #[.string (B l)] w fun e w' => e = .returned (.tuple #[.int .i64 (exI l), .bool (exB l)]) ∧ Below w.heap.size w w' := by
  have htl := B_toList
  cases l with
  | nil =>
    unfold exI exB
    go_enter Tryz.func80, Tryz.ntmps80
    go_wp2
    go_ret2
    exact ⟨rfl, Below.refl _ _⟩
  | cons c r =>
    by_cases hc : (c.toNat : Int) = 101 ∨ (c.toNat : Int) = 69
    · have := exponent_e c r w (by rw [List.length_cons] at hs; omega) hc
      have e1 : exB (c :: r) = isd (sgR r) := by
        show (decide _ && _) = _
        rw [decide_eq_true hc]; rfl
      rw [show exI (c :: r) = if exB (c :: r) then exS r else 0 from rfl, e1]; exact this
    · have e1 : exB (c :: r) = false := by
        show (decide _ && _) = _
        rw [decide_eq_false hc]; rfl
      have e2 : exI (c :: r) = 0 := by rw [show exI (c :: r) = if exB (c :: r) then exS r else 0 from rfl, e1]; rfl
      rw [e1, e2]
      have hsz := B_size (c :: r)
      have hln : (c :: r).length = r.length + 1 := rfl
      have hsb := by_lt (l := c :: r) (i := 0) (by rw [hsz, hln]; omega)
      rw [by_zero] at hsb
      have h1 : ¬ (c.toNat : Int) = 101 := fun h => hc (Or.inl h)
      have h2 : ¬ (c.toNat : Int) = 69 := fun h => hc (Or.inr h)
      have g1 : ((c.toNat : Int) != 101) = true := by simpa using h1
      have g2 : ((c.toNat : Int) != 69) = true := by simpa using h2
      clear hc
      go_enter Tryz.func80, Tryz.ntmps80
      go_wp2
      go_ret2
      exact ⟨rfl, Below.refl _ _⟩
/-! the document's -/
theorem bar_all {l : List UInt8} (h : l.all dg = true) : (bar l).all dg = true := by
  induction l with
  | nil => rfl
  | cons c r ih =>
    rw [bar_cons]
    rw [List.all_cons, Bool.and_eq_true] at h
    split
    · exact ih h.2
    · rw [List.all_cons, h.1, h.2]; rfl
theorem bar_le (l : List UInt8) : (bar l).length ≤ l.length := by
  induction l with
  | nil => exact Nat.le_refl _
  | cons c r ih =>
    rw [bar_cons]
    split
    · rw [List.length_cons]; omega
    · exact Nat.le_refl _
theorem bar_head {l : List UInt8} {c : UInt8} {r : List UInt8} (h : bar l = c :: r) : (c.toNat : Int) ≠ 48 := by
  induction l with
  | nil => cases h
  | cons d s ih =>
    rw [bar_cons] at h
    split at h
    · exact ih h
    · rename_i hd; cases h; exact hd
end
end Go.Proofs.YtpemdcnneabbfaaGreatDoor
