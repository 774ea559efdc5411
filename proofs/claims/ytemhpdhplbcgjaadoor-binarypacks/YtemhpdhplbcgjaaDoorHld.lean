/-
  The formats' table, field by field; what awake, Holds and the document's Holds do: contracts.
-/
import Derived.Test.YtemhpdhplbcgjaaDoorRof
set_option linter.unusedVariables false
set_option linter.unusedSimpArgs false
set_option maxRecDepth 20000
namespace Go.Proofs.YtemhpdhplbcgjaaDoor
open Go.RowKit

def numN (n : Int) : Int := if okN n then n else 0
def baseN : Int → Int
  | 1 => 2
  | 2 => 2
  | 3 => 2
  | 4 => 2
  | 5 => 2
  | 6 => 2
  | 7 => 10
  | 8 => 10
  | 9 => 10
  | 10 => 10
  | 11 => 10
  | 12 => 10
  | _ => 0
def widthN : Int → Int
  | 1 => 16
  | 2 => 16
  | 3 => 32
  | 4 => 64
  | 5 => 128
  | 6 => 256
  | 7 => 32
  | 8 => 64
  | 9 => 128
  | 10 => 32
  | 11 => 64
  | 12 => 128
  | _ => 0
def precN : Int → Int
  | 1 => 11
  | 2 => 8
  | 3 => 24
  | 4 => 53
  | 5 => 113
  | 6 => 241
  | 7 => 7
  | 8 => 16
  | 9 => 34
  | 10 => 7
  | 11 => 16
  | 12 => 34
  | _ => 0
def expN : Int → Int
  | 1 => 5
  | 2 => 8
  | 3 => 8
  | 4 => 11
  | 5 => 15
  | 6 => 15
  | 7 => 96
  | 8 => 384
  | 9 => 6144
  | 10 => 96
  | 11 => 384
  | 12 => 6144
  | _ => 0
def leastN : Int → Int
  | 1 => -24
  | 2 => -133
  | 3 => -149
  | 4 => -1074
  | 5 => -16494
  | 6 => -16622
  | 7 => -101
  | 8 => -398
  | 9 => -6176
  | 10 => -101
  | 11 => -398
  | 12 => -6176
  | _ => 0
def mostN : Int → Int
  | 1 => 5
  | 2 => 120
  | 3 => 104
  | 4 => 971
  | 5 => 16271
  | 6 => 16143
  | 7 => 90
  | 8 => 369
  | 9 => 6111
  | 10 => 90
  | 11 => 369
  | 12 => 6111
  | _ => 0
def payN : Int → Int
  | 1 => 9
  | 2 => 6
  | 3 => 22
  | 4 => 51
  | 5 => 111
  | 6 => 239
  | 7 => 6
  | 8 => 15
  | 9 => 33
  | 10 => 6
  | 11 => 15
  | 12 => 33
  | _ => 0
def denseN (n : Int) : Bool := decide (10 ≤ n ∧ n ≤ 12)
def nameN : Int → ByteArray
  | 1 => ⟨#[72, 97, 108, 102]⟩
  | 2 => ⟨#[66, 114, 97, 105, 110]⟩
  | 3 => ⟨#[83, 105, 110, 103, 108, 101]⟩
  | 4 => ⟨#[68, 111, 117, 98, 108, 101]⟩
  | 5 => ⟨#[81, 117, 97, 100]⟩
  | 6 => ⟨#[79, 99, 116, 111]⟩
  | 7 => ⟨#[80, 108, 97, 105, 110, 51, 50]⟩
  | 8 => ⟨#[80, 108, 97, 105, 110, 54, 52]⟩
  | 9 => ⟨#[80, 108, 97, 105, 110, 49, 50, 56]⟩
  | 10 => ⟨#[68, 101, 110, 115, 101, 51, 50]⟩
  | 11 => ⟨#[68, 101, 110, 115, 101, 54, 52]⟩
  | 12 => ⟨#[68, 101, 110, 115, 101, 49, 50, 56]⟩
  | _ => ⟨#[]⟩
theorem fields_none {n : Int} (h : ¬ okN n) : numN n = 0 ∧ nameN n = ⟨#[]⟩ ∧ baseN n = 0 ∧ widthN n = 0 ∧ precN n = 0 ∧ expN n = 0 ∧ leastN n = 0 ∧ mostN n = 0 ∧ payN n = 0 ∧ denseN n = false := by
  refine ⟨if_neg h, ?_, ?_, ?_, ?_, ?_, ?_, ?_, ?_, ?_⟩
  · unfold nameN okN at *; split <;> first | rfl | omega
  · unfold baseN okN at *; split <;> first | rfl | omega
  · unfold widthN okN at *; split <;> first | rfl | omega
  · unfold precN okN at *; split <;> first | rfl | omega
  · unfold expN okN at *; split <;> first | rfl | omega
  · unfold leastN okN at *; split <;> first | rfl | omega
  · unfold mostN okN at *; split <;> first | rfl | omega
  · unfold payN okN at *; split <;> first | rfl | omega
  · unfold denseN okN at *; simp only [decide_eq_false_iff_not]; omega
theorem infoV_eq (n : Int) : infoV n = #[.int .i64 (numN n), .string (nameN n), .int .i64 (baseN n), .int .i64 (widthN n), .int .i64 (precN n), .int .i64 (expN n), .int .i64 (leastN n), .int .i64 (mostN n), .int .i64 (payN n), .bool (denseN n)] := by
  by_cases h : okN n
  · rcases okN_cases h with rfl | rfl | rfl | rfl | rfl | rfl | rfl | rfl | rfl | rfl | rfl | rfl <;> rfl
  · obtain ⟨h0, h1, h2, h3, h4, h5, h6, h7, h8, h9⟩ := fields_none h
    rw [infoV_none h, h0, h1, h2, h3, h4, h5, h6, h7, h8, h9]
/-- what is between what bounds -/
theorem fields_bounds (n : Int) : (0 ≤ baseN n ∧ baseN n ≤ 10) ∧ (0 ≤ widthN n ∧ widthN n ≤ 256) ∧ (0 ≤ precN n ∧ precN n ≤ 241) ∧ (-17000 ≤ leastN n ∧ leastN n ≤ 0) ∧ (0 ≤ mostN n ∧ mostN n ≤ 17000) := by
  by_cases h : okN n
  · rcases okN_cases h with rfl | rfl | rfl | rfl | rfl | rfl | rfl | rfl | rfl | rfl | rfl | rfl <;> decide
  · obtain ⟨h0, h1, h2, h3, h4, h5, h6, h7, h8, h9⟩ := fields_none h
    rw [h2, h3, h4, h6, h7]; decide
theorem ofv_any (n : Int) (w : World) (hT : Tab w) :
    Calls Tryd.prog 56 #[.int .i64 n] w fun e w' => e = .returned (.tuple #[.agg #[.int .i64 (numN n), .string (nameN n), .int .i64 (baseN n), .int .i64 (widthN n), .int .i64 (precN n), .int .i64 (expN n), .int .i64 (leastN n), .int .i64 (mostN n), .int .i64 (payN n), .bool (denseN n)], .int .i64 (infoE n)]) ∧ Below w.heap.size w w' :=
  infoV_eq n ▸ of_any n w hT
theorem rofv_any (n : Int) (w : World) :
    Calls Tryd.prog 25 #[.int .i64 n] w fun e w' => e = .returned (.tuple #[.agg #[.int .i64 (numN n), .string (nameN n), .int .i64 (baseN n), .int .i64 (widthN n), .int .i64 (precN n), .int .i64 (expN n), .int .i64 (leastN n), .int .i64 (mostN n), .int .i64 (payN n), .bool (denseN n)], .int .i64 (infoE n)]) ∧ Below w.heap.size w w' :=
  infoV_eq n ▸ rof_any n w
set_option maxHeartbeats 400000 in
def holdsP (f g : Int) : Prop := okN f ∧ okN g ∧ baseN f = baseN g ∧ precN f ≤ precN g ∧ leastN g ≤ leastN f ∧ mostN f + precN f ≤ mostN g + precN g
instance (f g : Int) : Decidable (holdsP f g) := inferInstanceAs (Decidable (_ ∧ _))
theorem holds_ways (f g : Int) (R : Bool → Prop)
    (h1 : infoE f = 1 → R false) (h2 : infoE f = 0 → infoE g = 1 → R false) (h3 : infoE f = 0 → infoE g = 0 → (baseN f == baseN g) = false → R false)
    (h4 : infoE f = 0 → infoE g = 0 → (baseN f == baseN g) = true → precN g < precN f → R false)
    (h5 : infoE f = 0 → infoE g = 0 → (baseN f == baseN g) = true → precN f ≤ precN g → leastN f < leastN g → R false)
    (h6 : infoE f = 0 → infoE g = 0 → (baseN f == baseN g) = true → precN f ≤ precN g → leastN g ≤ leastN f → mostN g + precN g < mostN f + precN f → R false)
    (h7 : infoE f = 0 → infoE g = 0 → (baseN f == baseN g) = true → precN f ≤ precN g → leastN g ≤ leastN f → mostN f + precN f ≤ mostN g + precN g → R true) : R (decide (holdsP f g)) := by
  have e0 : ∀ n, okN n → infoE n = 0 := fun n h => if_pos h
  have e1 : ∀ n, ¬ okN n → infoE n = 1 := fun n h => if_neg h
  by_cases k1 : okN f
  · by_cases k2 : okN g
    · by_cases k3 : baseN f = baseN g
      · have b3 : (baseN f == baseN g) = true := by simpa using k3
        by_cases k4 : precN f ≤ precN g
        · by_cases k5 : leastN g ≤ leastN f
          · by_cases k6 : mostN f + precN f ≤ mostN g + precN g
            · rw [decide_eq_true (p := holdsP f g) ⟨k1, k2, k3, k4, k5, k6⟩]; exact h7 (e0 _ k1) (e0 _ k2) b3 k4 k5 k6
            · rw [decide_eq_false (p := holdsP f g) (fun h => k6 h.2.2.2.2.2)]; exact h6 (e0 _ k1) (e0 _ k2) b3 k4 k5 (by omega)
          · rw [decide_eq_false (p := holdsP f g) (fun h => k5 h.2.2.2.2.1)]; exact h5 (e0 _ k1) (e0 _ k2) b3 k4 (by omega)
        · rw [decide_eq_false (p := holdsP f g) (fun h => k4 h.2.2.2.1)]; exact h4 (e0 _ k1) (e0 _ k2) b3 (by omega)
      · rw [decide_eq_false (p := holdsP f g) (fun h => k3 h.2.2.1)]; exact h3 (e0 _ k1) (e0 _ k2) (by simpa using k3)
    · rw [decide_eq_false (p := holdsP f g) (fun h => k2 h.2.1)]; exact h2 (e0 _ k1) (e1 _ k2)
  · rw [decide_eq_false (p := holdsP f g) (fun h => k1 h.1)]; exact h1 (e1 _ k1)
theorem lt_allocI {W w3 : World} {o : Obj} {n : Nat} (hb : Below n (W.alloc o) w3) : W.heap.size < w3.heap.size := by
  have h := hb.size
  have h2 : (W.alloc o).heap.size = W.heap.size + 1 := World.size_alloc W o
  omega
theorem cell_allocI {W w3 : World} {cs : Array Value} {t : TypeId} {k : Nat} (hb : Below (W.alloc (.cells cs t)).heap.size (W.alloc (.cells cs t)) w3) : w3.cell? ⟨W.heap.size, k, none⟩ = cs[k]? :=
  (hb.cell (p := ⟨W.heap.size, k, none⟩) (by simp)).trans (World.cell?_alloc_new ..)
theorem four_cells {W w3 : World} {v0 v1 v2 v3 v4 v5 v6 v7 v8 v9 : Value} {t : TypeId} (hb : Below (W.alloc (.cells #[v0, v1, v2, v3, v4, v5, v6, v7, v8, v9] t)).heap.size (W.alloc (.cells #[v0, v1, v2, v3, v4, v5, v6, v7, v8, v9] t)) w3) :
    w3.cell? ⟨W.heap.size, 2, none⟩ = some v2 ∧ w3.cell? ⟨W.heap.size, 4, none⟩ = some v4 ∧ w3.cell? ⟨W.heap.size, 6, none⟩ = some v6 ∧ w3.cell? ⟨W.heap.size, 7, none⟩ = some v7 :=
  ⟨cell_allocI hb, cell_allocI hb, cell_allocI hb, cell_allocI hb⟩
set_option maxHeartbeats 1000000 in
set_option maxHeartbeats 1000000 in
theorem holdsP_self (f : Int) : holdsP f f ↔ okN f := ⟨fun h => h.1, fun h => ⟨h, h, rfl, Int.le_refl _, Int.le_refl _, Int.le_refl _⟩⟩
theorem holdsP_trans {f g h : Int} (h1 : holdsP f g) (h2 : holdsP g h) : holdsP f h := by
  obtain ⟨a1, a2, a3, a4, a5, a6⟩ := h1
  obtain ⟨b1, b2, b3, b4, b5, b6⟩ := h2
  exact ⟨a1, b2, a3.trans b3, Int.le_trans a4 b4, Int.le_trans b5 a5, Int.le_trans a6 b6⟩
end Go.Proofs.YtemhpdhplbcgjaaDoor
