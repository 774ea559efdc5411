/-
  Texts that the proof leans on.
-/
import Derived.Test.YtgknbdehlmlipaaDoorJ43
import Derived.Test.YtgknbdehlmlipaaDoorJ33
import Derived.Test.YtgknbdehlmlipaaDoorJ19
import Derived.Test.YtgknbdehlmlipaaDoorJ18
import Derived.Test.YtgknbdehlmlipaaDoorJ17
import Derived.Test.YtgknbdehlmlipaaDoorJ11
import Derived.Test.YtgknbdehlmlipaaDoorJ21
import Derived.Test.YtgknbdehlmlipaaDoorJ27
import Derived.Test.YtgknbdehlmlipaaDoorJ32
import Derived.Deep.Cut
import Derived.Deep.CutRange
import Derived.Test.YtgknbdehlmlipaaDoorJ22
import Derived.Test.YtgknbdehlmlipaaDoorJ35
import Derived.Test.YtgknbdehlmlipaaDoorJ23
import Derived.Test.YtgknbdehlmlipaaDoorJ12
import Derived.Test.YtgknbdehlmlipaaDoorJ28
import Derived.Test.YtgknbdehlmlipaaDoorJ31
import Derived.Test.YtgknbdehlmlipaaDoorJ13
import Derived.Test.YtgknbdehlmlipaaDoorJ34
import Derived.Test.YtgknbdehlmlipaaDoorJ26
import Derived.Deep.MidRow
set_option linter.unusedVariables false
set_option linter.unusedSectionVars false
set_option linter.unusedSimpArgs false
set_option maxRecDepth 20000
namespace Go.Proofs.YtgknbdehlmlipaaDoor
open Go.RowKit
/-- the exponent of a fraction's first digit -/
noncomputable def tnX (N D : Nat) : Int := open Classical in if h : ∃ E, TnE N D E then Classical.choose h else 0
theorem tnX_is {N D : Nat} (hN : 0 < N) (hD : 0 < D) : TnE N D (tnX N D) := by
  have h := tnE_ex hN hD
  unfold tnX
  rw [dif_pos h]
  exact Classical.choose_spec h
/-- what decround answers -/
def rqE (n d : Int) (N D : Nat) : Int := if decN n ∧ knB d ∧ D ≠ 0 then (if 25600 < bl N ∨ 25600 < bl D then 4 else 0) else 1
noncomputable def rqD (n d : Int) (s : Bool) (N D : Nat) (x y : Int) : Dat :=
  if rqE n d N D = 0 then (if N = 0 then ⟨1, s, false, min (max y (fD n).l) (fD n).m, 0⟩ else dkD (fD n) d s (N * 10 ^ (clT x).toNat) (D * 10 ^ (-(clT x)).toNat) (tnX (N * 10 ^ (clT x).toNat) (D * 10 ^ (-(clT x)).toNat)) y) else ⟨0, false, false, 0, 0⟩
noncomputable def rqF (n d : Int) (s : Bool) (N D : Nat) (x : Int) : Int :=
  if rqE n d N D = 0 then (if N = 0 then 0 else dkF (fD n) d s (N * 10 ^ (clT x).toNat) (D * 10 ^ (-(clT x)).toNat) (tnX (N * 10 ^ (clT x).toNat) (D * 10 ^ (-(clT x)).toNat))) else 0
end Go.Proofs.YtgknbdehlmlipaaDoor

namespace Go.Proofs.YtgknbdehlmlipaaDoor
open Go.RowKit
theorem tnX_eq {N D : Nat} {E : Int} (hN : 0 < N) (hD : 0 < D) (h : TnE N D E) : tnX N D = E := (tnX_is hN hD).only h
theorem third : rqD 7 0 false 1 3 0 0 = ⟨1, false, false, -7, 3333333⟩ ∧ rqF 7 0 false 1 3 0 = 8 ∧ rqE 7 0 1 3 = 0 := by
  have e0 : rqE 7 0 1 3 = 0 := by
    have b1 : bl 1 ≤ 2 := bl_le.2 (by decide)
    have b3 : bl 3 ≤ 2 := bl_le.2 (by decide)
    unfold rqE
    rw [if_pos ⟨by unfold decN; omega, by unfold knB; omega, by decide⟩, if_neg (by omega)]
  have eX : tnX (1 * 10 ^ (clT 0).toNat) (3 * 10 ^ (-(clT 0)).toNat) = -1 := tnX_eq (by decide) (by decide) ⟨by decide, by decide⟩
  refine ⟨?_, ?_, e0⟩
  · unfold rqD
    rw [if_pos e0, if_neg (by decide), eX]
    have h1 : (dkD (fD 7) 0 false (1 * 10 ^ (clT 0).toNat) (3 * 10 ^ (-(clT 0)).toNat) (-1) 0).c = 1 ∧ (dkD (fD 7) 0 false (1 * 10 ^ (clT 0).toNat) (3 * 10 ^ (-(clT 0)).toNat) (-1) 0).s = false ∧ (dkD (fD 7) 0 false (1 * 10 ^ (clT 0).toNat) (3 * 10 ^ (-(clT 0)).toNat) (-1) 0).g = false ∧ (dkD (fD 7) 0 false (1 * 10 ^ (clT 0).toNat) (3 * 10 ^ (-(clT 0)).toNat) (-1) 0).x = -7 ∧ (dkD (fD 7) 0 false (1 * 10 ^ (clT 0).toNat) (3 * 10 ^ (-(clT 0)).toNat) (-1) 0).k = 3333333 := by decide +kernel
    generalize dkD (fD 7) 0 false (1 * 10 ^ (clT 0).toNat) (3 * 10 ^ (-(clT 0)).toNat) (-1) 0 = R at h1 ⊢
    obtain ⟨c, s, g, x, k⟩ := R
    simp only at h1
    obtain ⟨rfl, rfl, rfl, rfl, rfl⟩ := h1
    rfl
  · unfold rqF
    rw [if_pos e0, if_neg (by decide), eX]
    decide +kernel
attribute [local irreducible] W4 Nt
end Go.Proofs.YtgknbdehlmlipaaDoor

namespace Go.Proofs.YtgknbdehlmlipaaDoor
open Go.RowKit
/-- a datum's cells -/
abbrev zd : Array Value := #[.int .i64 0, .bool false, .bool false, .int .i64 0, .int .u64 0, .int .u64 0, .int .u64 0, .int .u64 0]
theorem below_cellsD {n b : Nat} {a : World} (hb : n ≤ b) : ∀ (vs : List Value) (o : Nat) (W : World), Below n a W → Below n a (W.setCells b o vs)
  | [], _, _, h => h
  | v :: r, o, W, h => below_cellsD hb r (o + 1) _ (h.setCell hb v)
/-- a block that holds a datum -/
def D8 (g : Nat) (cs : Array Value) (w : World) : Prop := g < w.heap.size ∧ cs.size = 8 ∧ (∀ i, i < 8 → w.cell? ⟨g, i, none⟩ = cs[i]?) ∧ ∀ i, w.frozen? ⟨g, i, none⟩ = false
theorem D8.next {g : Nat} {cs : Array Value} {w w' : World} (h : D8 g cs w) (hb : Below w.heap.size w w') : D8 g cs w' :=
  ⟨Nat.lt_of_lt_of_le h.1 hb.size, h.2.1, fun i hi => (hb.cell (p := ⟨g, i, none⟩) h.1).trans (h.2.2.1 i hi), fun i => (hb.frozen (p := ⟨g, i, none⟩) h.1).trans (h.2.2.2 i)⟩
theorem D8.new (w : World) : D8 w.heap.size zd (w.alloc (.cells zd 34)) := by
  refine ⟨by simp, rfl, fun i hi => ?_, fun i => ?_⟩
  · rw [World.cell?_alloc_new]
  · simp [go_sem]
theorem D8.put {g : Nat} {cs cs' : Array Value} {w : World} (h : D8 g cs w) (hs : cs'.size = 8) : D8 g cs' (w.setCells g 0 cs'.toList) := by
  have hin := World.cell?_setCells_in g cs'.toList 0 w (fun j hj => by
    rw [Nat.zero_add, h.2.2.1 j (by simpa [hs] using hj), Array.getElem?_eq_getElem (by rw [h.2.1]; simpa [hs] using hj)]; rfl)
  refine ⟨Nat.lt_of_lt_of_le h.1 (below_cellsD (n := 0) (Nat.zero_le _) _ _ _ (Below.refl 0 w)).size, hs, fun i hi => ?_, fun i => ?_⟩
  · have := hin i (by simpa [hs] using hi)
    rw [Nat.zero_add] at this
    rw [this, Array.getElem?_eq_getElem (by rw [hs]; exact hi)]
    simp
  · rw [World.frozen?_setCells]; exact h.2.2.2 i
attribute [local irreducible] W4 Nt NT
section
variable {a : Act} {w : World} {K : Act → World → Prop} {Q : Exit → Act → World → Prop} {d p q : Nat} {ty : TypeId} {pos : String} {after : Array Edge} {gd : Option (Nat × Bool)}
end
end Go.Proofs.YtgknbdehlmlipaaDoor
