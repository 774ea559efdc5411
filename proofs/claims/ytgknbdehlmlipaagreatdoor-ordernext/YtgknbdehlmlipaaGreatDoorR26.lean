/-
  Texts that the proof leans on.
-/
import Derived.Test.YtgknbdehlmlipaaGreatDoorR22
import Derived.Deep.Cut
import Derived.Deep.CutRange
import Derived.Deep.RegionWith
import Derived.Test.YtgknbdehlmlipaaGreatDoorR19
import Derived.Test.YtgknbdehlmlipaaGreatDoorR18
import Derived.Test.YtgknbdehlmlipaaGreatDoorR7
import Derived.Test.YtgknbdehlmlipaaGreatDoorR20
import Derived.Test.YtgknbdehlmlipaaGreatDoorR21
set_option linter.unusedVariables false
set_option linter.unusedSectionVars false
set_option linter.unusedSimpArgs false
set_option maxRecDepth 20000
namespace Go.Proofs.YtgknbdehlmlipaaGreatDoor
open Go.RowKit
section
/-- a block holds a format -/
structure Ib (w : World) (g : Nat) (n : Int) (nm : ByteArray) (wd : Int) (f e : Nat) (l m : Int) : Prop where
  c0 : w.cell? ⟨g, 0, none⟩ = some (.int .i64 n)
  c1 : w.cell? ⟨g, 1, none⟩ = some (.string nm)
  c2 : w.cell? ⟨g, 2, none⟩ = some (.int .i64 2)
  c3 : w.cell? ⟨g, 3, none⟩ = some (.int .i64 wd)
  c4 : w.cell? ⟨g, 4, none⟩ = some (.int .i64 ((f : Int) + 1))
  c5 : w.cell? ⟨g, 5, none⟩ = some (.int .i64 e)
  c6 : w.cell? ⟨g, 6, none⟩ = some (.int .i64 l)
  c7 : w.cell? ⟨g, 7, none⟩ = some (.int .i64 m)
  c8 : w.cell? ⟨g, 8, none⟩ = some (.int .i64 ((f : Int) - 1))
  c9 : w.cell? ⟨g, 9, none⟩ = some (.bool false)
theorem Ib.next {w w' : World} {g : Nat} {n : Int} {nm : ByteArray} {wd : Int} {f e : Nat} {l m : Int} (h : Ib w g n nm wd f e l m) (hg : g < w.heap.size) (hb : Below w.heap.size w w') : Ib w' g n nm wd f e l m :=
  ⟨by rw [hb.cell (p := ⟨g, 0, none⟩) hg, h.c0], by rw [hb.cell (p := ⟨g, 1, none⟩) hg, h.c1], by rw [hb.cell (p := ⟨g, 2, none⟩) hg, h.c2], by rw [hb.cell (p := ⟨g, 3, none⟩) hg, h.c3], by rw [hb.cell (p := ⟨g, 4, none⟩) hg, h.c4], by rw [hb.cell (p := ⟨g, 5, none⟩) hg, h.c5], by rw [hb.cell (p := ⟨g, 6, none⟩) hg, h.c6], by rw [hb.cell (p := ⟨g, 7, none⟩) hg, h.c7], by rw [hb.cell (p := ⟨g, 8, none⟩) hg, h.c8], by rw [hb.cell (p := ⟨g, 9, none⟩) hg, h.c9]⟩
attribute [local irreducible] W4 Nz Nt
section
variable (n d x : Int) (s : Bool) (vn vd : Value) (w : World) (hT : Tab w)
variable (nm : ByteArray) (wd : Int) (f e : Nat) (l m : Int) (N C : Nat) (R : Nat) (E fl lead x1 q0 : Int) (ex : Bool)
  (c25 : ∀ W, Below w.heap.size w W → Calls Tryz.prog 134 #[.int .i64 n, .int .i64 d, vn, vd] W fun r w' => r = .returned (.tuple #[DI n nm wd f e l m, .int .i64 0]) ∧ Below W.heap.size W w')
  (c26 : ∀ W, Below w.heap.size w W → Calls Tryz.prog 71 #[vn] W fun r w' => r = .returned (.int .i64 (bl N : Int)) ∧ W = w')
include hT c25 c26
variable (hf : f ≤ 300) (hl : -100000 ≤ l ∧ l ≤ 100000) (hm : -100000 ≤ m ∧ m ≤ 100000) (hld : -100000 ≤ lead ∧ lead ≤ 100000) (hx1 : -300000 ≤ x1 ∧ x1 ≤ 300000) (hq0 : q0 = max l (lead + x1 - ((f : Int) + 1) + 1))
  (hN : (((bl N : Nat) : Int) == 0) = false)
  (c28 : ∀ W, Below w.heap.size w W → Calls Tryz.prog 136 #[vn, vd] W fun r w' => r = .returned (.int .i64 lead) ∧ Below W.heap.size W w')
  (c29 : ∀ W, Calls Tryz.prog 137 #[DI n nm wd f e l m, .int .i64 lead, .int .i64 x] W fun r w' => r = .returned (.int .i64 x1) ∧ Below W.heap.size W w')
  (c30 : ∀ W k, k = x1 - q0 → Below w.heap.size w W → Calls Tryz.prog 138 #[vn, vd, .int .i64 k] W fun r w' => ∃ va vb, r = .returned (.tuple #[va, vb]) ∧ Below W.heap.size W w' ∧ (Calls Tryz.prog 139 #[.int .i64 d, .bool s, va, vb] w' fun r w'' => ∃ v, r = .returned (.tuple #[v, .bool ex]) ∧ Nz 2003 C v w'' ∧ Below w'.heap.size w' w''))
  (c26c : ∀ W v, Nz 2003 C v W → Calls Tryz.prog 71 #[v] W fun r w' => r = .returned (.int .i64 (bl C : Int)) ∧ W = w')
  (c31 : ∀ W v, Nz 2003 C v W → Calls Tryz.prog 140 #[v, .int .i64 1] W fun r w' => ∃ v' b, r = .returned (.tuple #[v', .bool b]) ∧ Nz 2003 (C / 2) v' w' ∧ Below W.heap.size W w')
include hf hl hm hld hx1 hq0 hN c28 c29 c30 c26c c31
end
end
theorem NT.more {K K' V : Nat} {v : Value} {w : World} (h : NT K V v w) (hk : K ≤ K') : NT K' V v w := by
  obtain ⟨g, k, cap, z, h1, h2, h3, h4, h5⟩ := h
  exact ⟨g, k, cap, z, h1, by omega, h3, h4, h5⟩
theorem rlen_nv {K V : Nat} {v : Value} {w : World} (hK : K < 1000000) (h : NV K V v w) :
    Calls Tryz.prog 23 #[v] w fun e w' => e = .returned (.int .i64 (bl V : Int)) ∧ w = w' := by
  obtain ⟨g, k, c, z, rfl, hk, hN, hz⟩ := h
  have := rlen_num _ k c z w (by omega) hN
  rw [len_bl hN.2.2.1 hz] at this
  exact this
def tpN (n : Int) : Nat := (2 ^ eN n - 1) * 2 ^ fN n
def sgN (n : Int) (s : Bool) : Nat := if s then 2 ^ (fN n + eN n) else 0
theorem pk_fin {n : Int} {s : Bool} {q : Int} {c : Nat} (hb : binN n) (h : isD (fN n) (leastN n) (mostN n) ⟨1, s, false, q, c⟩) : pkV n ⟨1, s, false, q, c⟩ = (q - leastN n).toNat * 2 ^ fN n + c + sgN n s := by
  unfold pkV sgN
  rw [if_pos ⟨hb, h⟩]
  unfold pk
  simp
theorem pk_inf {n : Int} {s : Bool} (hb : binN n) : pkV n ⟨2, s, false, 0, 0⟩ = tpN n + sgN n s := by
  unfold pkV sgN tpN
  rw [if_pos ⟨hb, Or.inr (Or.inl ⟨rfl, rfl, rfl, rfl⟩)⟩]
  unfold pk
  simp
theorem lg_top {n : Int} {s : Bool} (hb : binN n) : lgV n s = tpN n - 1 + sgN n s ∧ 1 ≤ tpN n := by
  unfold lgV sgN tpN
  rw [if_pos hb]
  have hF := bin_fm hb
  have hp := pow_e hF.e2 hF.e15
  have hpc : ((2 : Int) ^ eN n) = ((2 ^ eN n : Nat) : Int) := by simp
  rw [hpc] at hp
  have hFp : 0 < 2 ^ fN n := Nat.two_pow_pos _
  generalize 2 ^ fN n = F at *
  generalize 2 ^ eN n = E at *
  obtain ⟨E', rfl⟩ : ∃ E' : Nat, E = E' + 2 := ⟨E - 2, by omega⟩
  rw [show E' + 2 - 2 = E' by omega, show E' + 2 - 1 = E' + 1 by omega, Nat.add_mul]
  omega
/-- the exponent as the document takes it -/
def clZ (x : Int) : Int := min (max x (-200000)) 200000
def sN (N : Nat) (x : Int) : Nat := N * 2 ^ (clZ x).toNat
def whC (d : Int) (s : Bool) (A B : Nat) : Nat := if faB d s (decide (A / B % 2 = 1)) (A % B) B then A / B + 1 else A / B
end Go.Proofs.YtgknbdehlmlipaaGreatDoor
