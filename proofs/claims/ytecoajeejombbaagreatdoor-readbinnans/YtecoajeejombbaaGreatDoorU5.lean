/-
  Texts that the proof leans on, joined: Xp, Lift, Lfw, Lk, Lfn.
-/
import Derived.Test.YtecoajeejombbaaGreatDoorU3
import Derived.Test.YtecoajeejombbaaGreatDoorU4
import Derived.Test.YtecoajeejombbaaGreatDoorT5
import Derived.ProofKit
import Derived.OpenShut
import Derived.Carry
import Derived.Deep.DeepHandedRow
import Derived.Test.YtecoajeejombbaaGreatDoorJ3
import Derived.Test.YtecoajeejombbaaGreatDoorJ2
import Derived.Test.YtecoajeejombbaaGreatDoorT2
import Derived.Test.YtecoajeejombbaaGreatDoorJ17
import Derived.Test.YtecoajeejombbaaGreatDoorRows
import Derived.LaidLaws
import Derived.ChangeMaps5
import Derived.Test.YtecoajeejombbaaGreatDoorTE
set_option linter.unusedVariables false
set_option linter.unusedSectionVars false
set_option linter.unusedSimpArgs false
set_option maxRecDepth 20000
namespace Go.Proofs.YtecoajeejombbaaGreatDoor
open Go.RowKit

theorem A4_QW (X : Nat) : A4 X = QW (W4 X 0) (W4 X 1) (W4 X 2) (W4 X 3) := rfl
theorem DV_DW (s g : Bool) (P : Nat) : DV 3 s g 0 P = DW s g (W4 P 0) (W4 P 1) (W4 P 2) (W4 P 3) := rfl
theorem DW_one (s g : Bool) : DV 3 s g 0 1 = DW s g 1 0 0 0 := by
  rw [DV_DW, show W4 1 0 = 1 by decide, show W4 1 1 = 0 by decide, show W4 1 2 = 0 by decide, show W4 1 3 = 0 by decide]
theorem DW_zero (s g : Bool) : DV 3 s g 0 0 = DW s g 0 0 0 0 := by
  rw [DV_DW, W4_zero, W4_zero, W4_zero, W4_zero]
theorem nan_make {n d : Int} {D : List UInt8} {V : Nat} (sg sn : Bool) (hb : binN n) (hk : knB d) (hD : gdD D) (hV : dV D = V) (hl : D.length ≤ 660) :
    ∃ X : Nat, (∀ W, Tab W → Tb10 W → Calls Tryz.prog 12 #[.int .i64 n, .int .i64 d, .agg #[.int .i64 3, .bool sg, .bool sn, .string (B D), .int .i64 0]] W fun r w' => r = .returned (.tuple #[A4 X, .int .i64 0, .int .i64 0]) ∧ Below W.heap.size W w') ∧
      (∀ W, Calls Tryz.prog 24 #[.int .i64 n, A4 X] W fun r w' => r = .returned (.tuple #[DV 3 sg sn 0 (plV (fN n) sn V), .int .i64 0]) ∧ Below W.heap.size W w') := by
  have hj : jnP ⟨3, sg, sn, D, 0⟩ := jn_of_gd ⟨hD, Or.inr (Or.inr ⟨rfl, rfl, by
    have := tex_len2 (c := 3) (s := sg) (g := sn) (d := D) (e := 0) ⟨by decide, by decide⟩
    show (texT 3 sg sn D 0).length ≤ 4000
    omega⟩)⟩
  have hi := pl_isD (l := leastN n) (m := mostN n) sg sn V (fN_ge hb)
  have hE : pkE n ⟨3, sg, sn, 0, plV (fN n) sn V⟩ = 0 := by unfold pkE; rw [if_pos hb, if_pos hi]
  obtain ⟨g, u⟩ := back_pk hE
  refine ⟨pkV n ⟨3, sg, sn, 0, plV (fN n) sn V⟩, fun W hT hT10 => ?_, fun W => ?_⟩
  · have := make_v (p := ⟨3, sg, sn, D, 0⟩) hb hk hj ⟨show (-9223372036854775808 : Int) ≤ 0 by decide, show (0 : Int) ≤ 9223372036854775807 by decide⟩ W hT hT10
    rw [show mkF n d ⟨3, sg, sn, D, 0⟩ = 0 from if_neg (show ¬ (3 : Int) = 1 by decide), show mkV n d ⟨3, sg, sn, D, 0⟩ = pkV n ⟨3, sg, sn, 0, plV (fN n) sn (dV D)⟩ from (if_neg (show ¬ (3 : Int) = 1 by decide)).trans (if_neg (show ¬ (3 : Int) = 2 by decide)), hV] at this
    exact this
  · have := runpack_any n (pkV n ⟨3, sg, sn, 0, plV (fN n) sn V⟩) W (good_256 g)
    rw [u, show unE n (pkV n ⟨3, sg, sn, 0, plV (fN n) sn V⟩) = 0 from if_pos g] at this
    exact this
theorem readbinNaNs_any (n d : Int) (a : Option Addr) (k c : Nat) (z : Nat → Int) (sn sg : Bool) (w : World) (hT : Tab w) (hT10 : Tb10 w) (h : Num w a k c z) :
    Calls Tryz.prog 7 #[.int .i64 n, .int .i64 d, .slice a k c, .bool sn, .bool sg] w fun r w' => r = .returned (.bool true) ∧ Below w.heap.size w w' := by
  have m1 := h.2.1
  unfold maxLen at m1
  have hkc := h.1
  have hc2 : (c : Int) ≤ 9223372036854775807 := by omega
  by_cases hl : (30 : Int) < k
  · exact nan_long n d a k c sn sg w hT hT10 hkc hc2 hl
  · have hl' : (k : Int) ≤ 30 := by omega
    by_cases hb : binN n
    · have c22 := fun W => bin_true hb W
      by_cases hk : knB d
      · have c15 := fun W => dir_true hk W
        obtain ⟨D, d1, d2, d3, c20⟩ := rdec8 (by omega) h
        have h0 := (val_bd h.2.2.1 k).1
        obtain ⟨V, hV⟩ : ∃ V : Nat, val z k = (V : Int) := ⟨(val z k).toNat, by omega⟩
        have hdV : dV D = V := by omega
        obtain ⟨X, c12, c24⟩ := nan_make sg sn hb hk d1 hdV d3
        have hf : 2 ≤ fN n ∧ fN n ≤ 240 := ⟨fN_ge hb, (fld_bd hb).2.2.2.1⟩
        have c26 := fun W (hW : Below w.heap.size w W) => (rlen8 (by omega) (h.next hW) hV).mono fun r w' (hr : r = .returned (.int .i64 (bl V : Int)) ∧ W = w') => (⟨hr.1, hr.2 ▸ Below.refl _ _⟩ : r = .returned (.int .i64 (bl V : Int)) ∧ Below W.heap.size W w')
        have c27 := fun W (hW : Below w.heap.size w W) => bits8 (h.next hW) hV
        have c12' := fun W (hW : Below w.heap.size w W) => c12 W (hT.go hW) (hT10.next hW)
        rw [A4_QW] at c24
        simp only [A4_QW] at c12' c27
        by_cases hfit : (bl V : Int) ≤ (fN n : Int) - 1
        · have hpl : plA (fN n) V = V := if_neg (by omega)
          have hV256 : V < 2 ^ 256 := bl_le.1 (by omega)
          cases sn with
          | false =>
            rw [show plV (fN n) false V = V by unfold plV; rw [hpl, if_neg (by simp)]] at c24
            exact nan_a1 n d a k c false sg w hT hT10 hkc hc2 hl' c22 c15 _ _ _ _ _ _ hf D _ _ _ _ _ _ _ _ _ c20 c12' (fun W => rof_bin hb W) c26 rfl hfit c27 c24
          | true =>
            by_cases hz : V = 0
            · rw [show plV (fN n) true V = 1 by unfold plV; rw [hpl, if_pos ⟨rfl, hz⟩], DW_one] at c24
              exact nan_a3 n d a k c true sg w hT hT10 hkc hc2 hl' c22 c15 _ _ _ _ _ _ hf D _ _ _ _ _ _ _ _ _ c20 c12' (fun W => rof_bin hb W) c26 rfl hfit c27 (by subst hz; exact ⟨W4_zero _, W4_zero _, W4_zero _, W4_zero _⟩) c24
            · rw [show plV (fN n) true V = V by unfold plV; rw [hpl, if_neg (fun e => hz e.2)]] at c24
              refine nan_a2 n d a k c true sg w hT hT10 hkc hc2 hl' c22 c15 _ _ _ _ _ _ hf D _ _ _ _ _ _ _ _ _ c20 c12' (fun W => rof_bin hb W) c26 rfl hfit c27 (fun e => hz ?_) c24
              refine A4_inj hV256 (by decide) fun i hi => ?_
              rw [W4_zero]
              have : i = 0 ∨ i = 1 ∨ i = 2 ∨ i = 3 := by omega
              rcases this with rfl | rfl | rfl | rfl
              · exact e.1
              · exact e.2.1
              · exact e.2.2.1
              · exact e.2.2.2
        · have hpl : plA (fN n) V = 0 := if_pos (by omega)
          cases sn with
          | false =>
            rw [show plV (fN n) false V = 0 by unfold plV; rw [hpl, if_neg (by simp)], DW_zero] at c24
            exact nan_n1 n d a k c false sg w hT hT10 hkc hc2 hl' c22 c15 _ _ _ _ _ _ hf D _ _ _ _ _ c20 c12' (fun W => rof_bin hb W) c26 rfl (by omega) c24
          | true =>
            rw [show plV (fN n) true V = 1 by unfold plV; rw [hpl, if_pos ⟨rfl, rfl⟩], DW_one] at c24
            exact nan_n2 n d a k c true sg w hT hT10 hkc hc2 hl' c22 c15 _ _ _ _ _ _ hf D _ _ _ _ _ c20 c12' (fun W => rof_bin hb W) c26 rfl (by omega) c24
      · refine nan_nd n d a k c sn sg w hT hT10 hkc hc2 hl' c22 (fun W => ?_)
        have := rdir_any d W
        rw [decide_eq_false hk] at this
        exact this
    · refine nan_nb n d a k c sn sg w hT hT10 hkc hc2 hl' (fun W => ?_)
      have := rbinary_any n W
      rw [decide_eq_false hb] at this
      exact this.mono fun _ _ ⟨h1, h2⟩ => ⟨h1, h2.symm⟩
end Go.Proofs.YtecoajeejombbaaGreatDoor

namespace Go.Proofs.YtecoajeejombbaaGreatDoor
open Go.ChangeShapes Go.WideShapes Go.ChangeAt Go.RowKit

theorem Tryz.own : ownKnob Tryz.prog.godebug = none := by kernel_rfl
theorem Tryz.laidOut : laidOutB Tryz.prog = true := by kernel_rfl
def tabCells : Array Value := ((List.range 12).flatMap fun i => (List.range 4).map fun k => rowV i k).toArray
def layCells (c : Array Value) : Obj → Obj
  | .cells _ t frozen => .cells c t frozen
  | o => o
end Go.Proofs.YtecoajeejombbaaGreatDoor

set_option maxRecDepth 100000
set_option maxRecDepth 20000
namespace Go.Proofs.YtecoajeejombbaaGreatDoor
open Go.ChangeShapes Go.WideShapes Go.ChangeAt Go.RowKit

theorem Tryz.cells23 : Tryz.prog.cellsOf 23 = 1 := by kernel_rfl
section
variable {H : Type} {enc : TypeId × Value → H} {W : World} {r : Reach} {base b : Nat} {sp : Nat → Bool} {held : Bool} {t : TypeId} {n : Nat} {v : Value} {d : DataW H} {p : List MemPlace}
end
end Go.Proofs.YtecoajeejombbaaGreatDoor

set_option maxRecDepth 100000
namespace Go.Proofs.YtecoajeejombbaaGreatDoor
open Go.ChangeShapes Go.WideShapes Go.ChangeAt Go.RowKit

/-- Go's tables, as cells -/
def firstCells : Array Value := (((List.replicate 128 240 ++ List.replicate 66 241 ++ List.replicate 30 2 ++ [19] ++ List.replicate 12 3 ++ [35] ++ List.replicate 2 3 ++ [52] ++ List.replicate 3 4 ++ [68] ++ List.replicate 11 241 : List Int)).map fun n => Value.int .u8 n).toArray
def rangeCells : Array Value := ((([128, 191, 160, 191, 128, 159, 144, 191, 128, 143] ++ List.replicate 22 0 : List Int)).map fun n => Value.int .u8 n).toArray
def db32Cells : Array Value := (([0, 1, 28, 2, 29, 14, 24, 3, 30, 22, 20, 15, 25, 17, 4, 8, 31, 27, 13, 23, 21, 19, 16, 7, 26, 12, 18, 6, 11, 5, 10, 9] : List Int).map fun n => Value.int .u8 n).toArray
def db64Cells : Array Value := ((([0, 1, 56, 2, 57, 49, 28, 3, 61, 58, 42, 50, 38, 29, 17, 4, 62, 47, 59, 36, 45, 43, 51, 22, 53, 39, 33, 30, 24, 18, 12, 5] ++ [63, 55, 48, 27, 60, 41, 37, 16, 46, 35, 44, 21, 52, 32, 23, 11, 54, 26, 40, 15, 34, 20, 31, 10, 25, 14, 19, 9, 13, 8, 7, 6] : List Int)).map fun n => Value.int .u8 n).toArray
def pow10Cells : Array Value := ((List.range 20).map fun k => Value.int .u64 ((10 ^ k : Nat) : Int)).toArray
noncomputable def laidWorld8 (os : Os) : World :=
  { World.holding Tryz.prog os ⟨#[], #[], []⟩ with heap := ((((((World.holding Tryz.prog os ⟨#[], #[], []⟩).heap.modify 0 (layCells tabCells)).modify 3 (layCells pow10Cells)).modify 4 (layCells db32Cells)).modify 5 (layCells db64Cells)).modify 6 (layCells firstCells)).modify 7 (layCells rangeCells) }
theorem laid_tail {P : Program} {W : World} {x : String × DataW Unit} {r : List (String × DataW Unit)} (h : laidMet P (x :: r) W) : laidMet P r W := by
  obtain ⟨ps, ⟨g, t, cs, fuel, p, q, _, _, _, _, hr, rfl⟩, hn, hc⟩ := h
  refine ⟨q, hr, ?_, fun b off hm => hc b off (by simp [hm])⟩
  exact (List.nodup_append.1 hn).2.1
theorem pw10_of_list {W : World} {x y : String × DataW Unit} {r : List (String × DataW Unit)} (h : laidMet Tryz.prog (x :: y :: ("internal/strconv.uint64pow10", Lib.tabData .u64 Lib.pow10Tab) :: r) W) : Tb10 W :=
  Lib.tabIs_of_head (P := Tryz.prog) (name := "internal/strconv.uint64pow10") (k := .u64) (zs := Lib.pow10Tab) (g := 3) (t := 188) (e := 23) (n := 20) (by kernel_rfl) (by kernel_rfl) (by kernel_rfl) (by kernel_rfl) (by kernel_rfl) (by kernel_rfl) (laid_tail (laid_tail h))
theorem tab_of_list {W : World} {x0 x1 x2 x3 : String × DataW Unit} {r : List (String × DataW Unit)} (h : laidMet Tryz.prog (x0 :: x1 :: x2 :: x3 :: ("caliper/desc.rows", Rows.laid_caliper_desc_rows) :: r) W) : Tab W :=
  tab_of_laid (laid_tail (laid_tail (laid_tail (laid_tail h))))
section
variable {H : Type} {enc : TypeId × Value → H} {W : World} {r : Reach} {base b : Nat} {sp : Nat → Bool} {held : Bool} {t : TypeId} {n : Nat} {v : Value} {d : DataW H} {p : List MemPlace}
end
end Go.Proofs.YtecoajeejombbaaGreatDoor

set_option maxRecDepth 20000
namespace Go.Proofs.YtecoajeejombbaaGreatDoor
open Go.ChangeShapes Go.WideShapes Go.ChangeAt Go.RowKit

theorem Tryz.rec41 : Tryz.prog.readableRec 41 = true := by kernel_rfl
theorem Tryz.row41 : (41 : TypeId) < Tryz.prog.types.size := of_decide_eq_true (by kernel_rfl)
section
variable {H : Type} {enc : TypeId × Value → H} {W : World} {r : Reach} {base : Nat} {v : Value} {d : DataW H} {p : List MemPlace}
def lenW (zs : List Int) (len i : Nat) : Int := if i < len then zs.getD i 0 else 0
theorem open_nat (hok : Value.okWide Tryz.prog W r base 41 v) (h : DataW.Trod enc Tryz.prog W 0 (fun _ => true) true 41 v d p) : ∃ a n c x, v = .slice a n c ∧ Num W a n c x := by
  obtain ⟨a0, len0, cap0, rfl⟩ := okWide_slice Tryz.underlying41 hok
  obtain ⟨fuel, hf⟩ := h
  rcases open_ints Tryz.underlying41 Tryz.underlying23 Tryz.cells23 hf with ⟨h1, _⟩ | ⟨a, len, cap, zs, h1, hb, hl, hm, hz, hx, hc, hw⟩
  · cases (List.cons.inj (show [Value.slice a0 len0 cap0] = [.slice none 0 0] from h1)).1
    exact ⟨none, 0, 0, fun _ => 0, rfl, Nat.le_refl _, by unfold maxLen; omega, fun _ => (by decide : (0 : Int) ≤ 0 ∧ (0 : Int) ≤ 18446744073709551615), fun _ _ => rfl, Or.inl ⟨rfl, rfl⟩⟩
  · cases (List.cons.inj (show [Value.slice a0 len0 cap0] = [.slice (some a) len cap] from h1)).1
    simp only [if_true] at hz
    have hh : a.spot = none ∧ a.block < W.heap.size := by
      simp only [Value.okWide, Tryz.underlying41, Cell.okWide, Cell.ok] at hok
      obtain ⟨_, _, hh⟩ := hok
      obtain ⟨_, h2, row, cells, h3, _⟩ := hh
      refine ⟨h2, ?_⟩
      rcases Nat.lt_or_ge a.block W.heap.size with h' | h'
      · exact h'
      · unfold World.shape? at h3; rw [Array.getElem?_eq_none h'] at h3; cases h3
    obtain ⟨b, off, spot⟩ := a
    obtain ⟨h2, h3⟩ := hh
    simp only at h2 h3
    subst h2
    refine ⟨some ⟨b, off, none⟩, len0, cap0, lenW zs len0, rfl, hl, hm, ?_, fun i hi => if_neg (by omega), Or.inr ⟨b, off, rfl, h3, fun i hi => ?_⟩⟩
    · intro i
      unfold lenW
      split
      · have := range_u64 hw i
        simpa [List.getD] using this
      · decide
    · have := hc i (by omega)
      rw [show (⟨b, off, none⟩ : Addr).add i = ⟨b, off + i, none⟩ by simp [Addr.add]] at this
      rw [this]; unfold lenW; rw [if_pos hi]
end
end Go.Proofs.YtecoajeejombbaaGreatDoor
