/-
  Texts that the proof leans on, joined: Gt.
-/
import Derived.Test.YtoobncgmcnmgjaaGreatDoorJ23
import Derived.Lib.AppendStr
import Derived.Lib.Builder
import Derived.Deep.AppendLies
set_option linter.unusedVariables false
set_option linter.unusedSimpArgs false
set_option maxRecDepth 20000
set_option linter.unusedSectionVars false
namespace Go.Proofs.YtoobncgmcnmgjaaGreatDoor
open Go.RowKit

/-- a row of one's own holds the bytes l, and block H the parts -/
structure Ap (Bs H : Nat) (cs : Array Value) (v : Value) (l : List UInt8) (w0 w : World) : Prop where
  own : w.ownsRow Bs 5 1 v l.length (Lib.byteCells l)
  box : w.heap[H]? = some (.cells cs 72)
  bel : Below Bs w0 w
  bs : Bs ≤ w.heap.size
theorem Ap.lt {Bs H : Nat} {cs : Array Value} {v : Value} {l : List UInt8} {w0 w : World} (h : Ap Bs H cs v l w0 w) : H < w.heap.size := by
  rcases Nat.lt_or_ge H w.heap.size with h' | h'
  · exact h'
  · have := h.box; rw [Array.getElem?_eq_none h'] at this; cases this
theorem Ap.cell {Bs H : Nat} {cs : Array Value} {v : Value} {l : List UInt8} {w0 w : World} (h : Ap Bs H cs v l w0 w) (i : Nat) : w.cell? ⟨H, i, none⟩ = cs[i]? := by
  unfold World.cell?
  have hh := h.box
  simp [hh]
theorem Ap.alloc {Bs H : Nat} {cs : Array Value} {v : Value} {l : List UInt8} {w0 w : World} (h : Ap Bs H cs v l w0 w) (o : Obj) : Ap Bs H cs v l w0 (w.alloc o) :=
  ⟨h.own.alloc o, by
    have := h.lt
    rw [show (w.alloc o).heap[H]? = (w.heap.push o)[H]? from rfl, Array.getElem?_push_lt this, ← Array.getElem?_eq_getElem this]
    exact h.box, h.bel.alloc h.bs _, by simp; have := h.bs; omega⟩
theorem bc_one (l : List UInt8) (b : UInt8) : Lib.byteCells l ++ [.int .u8 b.toNat] = Lib.byteCells (l ++ [b]) := by simp [Lib.byteCells]
theorem news1 (W : World) (b : Int) (H' : Nat) (h : W.heap.size = H') : ∀ j u, [Value.int .u8 b][j]? = some u → (W.alloc (.cells #[.int .u8 b] 5)).cell? ((⟨H', 0, none⟩ : Addr).add j) = some u := by
  subst h
  exact World.news_of_block (w := W.alloc (.cells #[.int .u8 b] 5)) (cs := #[.int .u8 b]) (t := 5) (fr := (0, 0)) (by
    show (W.heap.push _)[W.heap.size]? = _
    simp)
theorem one1 (b : Int) : ∀ u ∈ [Value.int .u8 b], u.oneCell' = true := by simp [Value.oneCell']
theorem Tryz.info5 : (Tryz.prog.info? 5).map (fun i => (i.zero, i.size, i.bytes)) = some (some (.int .u8 0), 1, 1) := by kernel_rfl
/-- an exponent's text -/
def exT (e : Int) : List UInt8 := if e = 0 then [] else 101 :: Lib.itoa e
def dgT (d : List UInt8) : List UInt8 := if d = [] then [48] else d
end Go.Proofs.YtoobncgmcnmgjaaGreatDoor
