/-
  Texts that the proof leans on, joined: Up, Dvm, Dvn, Dv, Dw, Dvs, Ndb, Cmp, Nad, Nsb, Nln, Adds, Nmu, Muls, Shv, Nsl, Npw.
-/
import Derived.Test.YthcndcanahhbcaaDoorJ1
import Derived.WalkKit
import Derived.Lib.BitFns
import Derived.Deep.Cut
import Derived.Deep.CutRange
import Derived.ChangeKeysEq
/-
  A block of words that is written in place: what it holds, and what else stays.
-/
set_option linter.unusedVariables false
set_option linter.unusedSimpArgs false
set_option maxRecDepth 20000
set_option linter.unusedSectionVars false
namespace Go.Proofs.YthcndcanahhbcaaDoor
open Go.RowKit

/-- block g is N words, those of x, none of them frozen -/
def Own (g N : Nat) (x : Nat → Int) (w : World) : Prop := w.heap[g]? = some (.cells (arrOf x N) 25)
/-- all but block g is as it was (the count of draws aside) -/
structure Upd (g : Nat) (w w' : World) : Prop where
  os : w'.os = w.os
  tape : w'.tape = w.tape
  output : w'.output = w.output
  size : w'.heap.size = w.heap.size
  block : ∀ k, k ≠ g → w'.heap[k]? = w.heap[k]?
theorem Upd.refl (g : Nat) (w : World) : Upd g w w := ⟨rfl, rfl, rfl, rfl, fun _ _ => rfl⟩
theorem Upd.trans {g : Nat} {a b c : World} (h : Upd g a b) (k : Upd g b c) : Upd g a c :=
  ⟨k.os.trans h.os, k.tape.trans h.tape, k.output.trans h.output, k.size.trans h.size, fun i hi => (k.block i hi).trans (h.block i hi)⟩
theorem Upd.drewN {g : Nat} {a b : World} (h : Upd g a b) (m : Nat) : Upd g a (b.drewN m) := ⟨h.os, h.tape, h.output, h.size, h.block⟩
theorem Upd.drew {g : Nat} {a b : World} (h : Upd g a b) : Upd g a b.drew := ⟨h.os, h.tape, h.output, h.size, h.block⟩
theorem Upd.set {g : Nat} {a b : World} (h : Upd g a b) (i : Nat) (v : Value) : Upd g a (b.setCell ⟨g, i, none⟩ v) :=
  h.trans ⟨rfl, rfl, rfl, by simp [World.setCell], fun k hk => Below.heap_setCell _ _ _ _ hk⟩
theorem Upd.below {g B : Nat} {w w' : World} (h : Upd g w w') (hB : B ≤ g) : Below B w w' := ⟨h.os, h.tape, h.output, Nat.le_of_eq h.size.symm, fun k hk => h.block k (by omega)⟩
theorem Upd.num {g : Nat} {w w' : World} {b off n c : Nat} {x : Nat → Int} (h : Upd g w w') (hb : b ≠ g) (hN : Num w (some ⟨b, off, none⟩) n c x) : Num w' (some ⟨b, off, none⟩) n c x := by
  obtain ⟨h1, h2, h3, h4, h5⟩ := hN
  refine ⟨h1, h2, h3, h4, ?_⟩
  rcases h5 with ⟨h5, _⟩ | ⟨b', off', h6, h7, h8⟩
  · cases h5
  · cases h6
    exact Or.inr ⟨b, off, rfl, by rw [h.size]; exact h7, fun i hi => (World.cell?_of_block (w := w) (a := ⟨b, off + i, none⟩) (h.block b hb)).trans (h8 i hi)⟩
/-- a number that lies elsewhere stays -/
def Apart (a : Option Addr) (g : Nat) : Prop := ∀ p, a = some p → p.block ≠ g
theorem Upd.num' {g : Nat} {w w' : World} {a : Option Addr} {n c : Nat} {x : Nat → Int} (h : Upd g w w') (hb : Apart a g) (hN : Num w a n c x) : Num w' a n c x := by
  have hN' := hN
  obtain ⟨h1, h2, h3, h4, h5⟩ := hN'
  rcases h5 with ⟨rfl, rfl⟩ | ⟨b', off', rfl, h7, h8⟩
  · exact ⟨h1, h2, h3, h4, Or.inl ⟨rfl, rfl⟩⟩
  · exact h.num (hb _ rfl) hN
theorem Upd.own {g g' N : Nat} {w w' : World} {x : Nat → Int} (h : Upd g w w') (hb : g' ≠ g) (hN : Own g' N x w) : Own g' N x w' := (h.block g' hb).trans hN
theorem Below.own {B g N : Nat} {w w' : World} {x : Nat → Int} (h : Below B w w') (hb : g < B) (hN : Own g N x w) : Own g N x w' := (h.block g hb).trans hN

theorem Own.lt {g N : Nat} {x : Nat → Int} {w : World} (h : Own g N x w) : g < w.heap.size := by
  rcases Nat.lt_or_ge g w.heap.size with h' | h'
  · exact h'
  · unfold Own at h; rw [Array.getElem?_eq_none h'] at h; cases h
theorem Own.cell {g N : Nat} {x : Nat → Int} {w : World} (h : Own g N x w) (i : Nat) (hi : i < N) : w.cell? ⟨g, i, none⟩ = some (.int .u64 (x i)) := by
  unfold World.cell?
  have hh : w.heap[g]? = some (.cells (arrOf x N) 25) := h
  simp [hh, arrOf_get? x N i hi]
theorem Own.frozen {g N : Nat} {x : Nat → Int} {w : World} (h : Own g N x w) (i : Nat) : w.frozen? ⟨g, i, none⟩ = false := by
  unfold World.frozen?
  have hh : w.heap[g]? = some (.cells (arrOf x N) 25) := h
  simp [hh]
theorem Own.set {g N : Nat} {x : Nat → Int} {w : World} (h : Own g N x w) (i : Nat) (v : Int) : Own g N (fun j => if j = i then v else x j) (w.setCell ⟨g, i, none⟩ (.int .u64 v)) := by
  have hh : w.heap[g]? = some (.cells (arrOf x N) 25) := h
  show (w.setCell ⟨g, i, none⟩ (.int .u64 v)).heap[g]? = _
  simp only [World.setCell, Array.getElem?_modify, if_true, hh]
  simp [arrOf_set]
theorem Own.congr {g N : Nat} {x y : Nat → Int} {w : World} (h : Own g N x w) (e : ∀ i, i < N → x i = y i) : Own g N y w := by
  unfold Own; rw [← arrOf_congr e]; exact h
theorem Own.new (w : World) (x : Nat → Int) (N : Nat) : Own w.heap.size N x (w.alloc (.cells (arrOf x N) 25)) := (MapKept.heap_alloc w _).1
/-- words off to off + m of the block, as a number -/
def segW (x : Nat → Int) (off m i : Nat) : Int := if i < m then x (off + i) else 0
theorem segW_words {x : Nat → Int} (hx : Words x) (off m : Nat) : Words (segW x off m) := fun i => by unfold segW; split; exact hx _; decide
theorem segW_zero (x : Nat → Int) (off m i : Nat) (h : m ≤ i) : segW x off m i = 0 := by unfold segW; rw [if_neg (by omega)]
theorem segW_lt (x : Nat → Int) (off m i : Nat) (h : i < m) : segW x off m i = x (off + i) := by unfold segW; rw [if_pos h]
theorem Own.num {g N : Nat} {x : Nat → Int} {w : World} (h : Own g N x w) (hx : Words x) (off m c : Nat) (hm : off + m ≤ N) (hc : m ≤ c) (hc2 : c ≤ maxLen) : Num w (some ⟨g, off, none⟩) m c (segW x off m) :=
  ⟨hc, hc2, segW_words hx off m, fun i hi => segW_zero x off m i hi, Or.inr ⟨g, off, rfl, h.lt, fun i hi => by rw [h.cell (off + i) (by omega), segW_lt x off m i hi]⟩⟩
end Go.Proofs.YthcndcanahhbcaaDoor

/-
  The plain arithmetic of a division of two words by one (after Knuth): one step guesses a digit and corrects it at most twice.
-/
set_option linter.unusedVariables false
set_option maxRecDepth 20000
set_option linter.unusedSectionVars false
set_option linter.unusedSimpArgs false
namespace Go.Proofs.YthcndcanahhbcaaDoor

/-- what a step is about: u below Y = d1 * 2^32 + d0, one digit e more -/
structure Dg (u d1 d0 e : Int) : Prop where
  a1 : 2147483648 ≤ d1
  a2 : d1 < 4294967296
  b1 : 0 ≤ d0
  b2 : d0 < 4294967296
  e1 : 0 ≤ e
  e2 : e < 4294967296
  u1 : 0 ≤ u
  u2 : u < d1 * 4294967296 + d0

theorem Dg.pos {u d1 d0 e : Int} (h : Dg u d1 d0 e) : 0 < d1 * 4294967296 + d0 := by have := h.a1; have := h.b1; omega
theorem mulY (q d1 d0 : Int) : q * (d1 * 4294967296 + d0) = (q * d1) * 4294967296 + q * d0 := by rw [Int.mul_add, Int.mul_assoc]
/-- the digit is below 2^32 -/
theorem Dg.lt {u d1 d0 e : Int} (h : Dg u d1 d0 e) : (u * 4294967296 + e) / (d1 * 4294967296 + d0) < 4294967296 := by
  apply Int.ediv_lt_of_lt_mul h.pos
  have := h.u2; have := h.e2; omega
theorem Dg.nonneg {u d1 d0 e : Int} (h : Dg u d1 d0 e) : 0 ≤ (u * 4294967296 + e) / (d1 * 4294967296 + d0) := Int.ediv_nonneg (by have := h.u1; have := h.e1; omega) (by have := h.pos; omega)
/-- the guess is too great -/
theorem Dg.big {u d1 d0 e q r : Int} (h : Dg u d1 d0 e) (hq : q * d1 + r = u) (ht : 4294967296 * r + e < q * d0) : (u * 4294967296 + e) / (d1 * 4294967296 + d0) ≤ q - 1 := by
  have : (u * 4294967296 + e) / (d1 * 4294967296 + d0) < q := by
    apply Int.ediv_lt_of_lt_mul h.pos
    rw [mulY]; omega
  omega
theorem Dg.big' {u d1 d0 e q : Int} (h : Dg u d1 d0 e) (ht : 4294967296 ≤ q) : (u * 4294967296 + e) / (d1 * 4294967296 + d0) ≤ q - 1 := by
  have := h.lt; omega
/-- the guess is right -/
theorem Dg.right {u d1 d0 e q r : Int} (h : Dg u d1 d0 e) (hq : q * d1 + r = u) (hge : (u * 4294967296 + e) / (d1 * 4294967296 + d0) ≤ q) (ht : q * d0 ≤ 4294967296 * r + e) : (u * 4294967296 + e) / (d1 * 4294967296 + d0) = q := by
  have : q ≤ (u * 4294967296 + e) / (d1 * 4294967296 + d0) := by
    apply Int.le_ediv_of_mul_le h.pos
    rw [mulY]; omega
  omega
theorem Dg.right' {u d1 d0 e q r : Int} (h : Dg u d1 d0 e) (hq : q * d1 + r = u) (hge : (u * 4294967296 + e) / (d1 * 4294967296 + d0) ≤ q) (hq2 : q ≤ 4294967296) (hr : 4294967296 ≤ r) : (u * 4294967296 + e) / (d1 * 4294967296 + d0) = q := by
  refine h.right hq hge ?_
  have h0 : 0 ≤ q := Int.le_trans h.nonneg hge
  have h1 : q * d0 ≤ 4294967296 * d0 := Int.mul_le_mul_of_nonneg_right hq2 h.b1
  have := h.b2; have := h.e1
  omega
/-- the first guess -/
theorem Dg.first {u d1 d0 e : Int} (h : Dg u d1 d0 e) : (u / d1) * d1 + u % d1 = u ∧ (u * 4294967296 + e) / (d1 * 4294967296 + d0) ≤ u / d1 ∧ u / d1 ≤ 4294967297 ∧ 0 ≤ u % d1 ∧ u % d1 < 4294967296 := by
  have a1 := h.a1; have a2 := h.a2
  have hd : 0 < d1 := by omega
  have e0 : (u / d1) * d1 + u % d1 = u := Int.mul_comm d1 _ ▸ Int.mul_ediv_add_emod u d1
  have m0 := Int.emod_nonneg u (show d1 ≠ 0 by omega)
  have m1 := Int.emod_lt_of_pos u hd
  refine ⟨e0, ?_, ?_, m0, by omega⟩
  · have : (u * 4294967296 + e) / (d1 * 4294967296 + d0) < u / d1 + 1 := by
      apply Int.ediv_lt_of_lt_mul h.pos
      rw [mulY, Int.add_mul]
      have p0 : 0 ≤ (u / d1 + 1) * d0 := Int.mul_nonneg (by have := Int.ediv_nonneg h.u1 (Int.le_of_lt hd); omega) h.b1
      have := h.e2
      omega
    omega
  · have : u / d1 < 4294967298 := by
      apply Int.ediv_lt_of_lt_mul hd
      have := h.u2; have := h.b2
      omega
    omega
/-- the rest of a step -/
theorem Dg.rest {u d1 d0 e q : Int} (h : Dg u d1 d0 e) (hq : (u * 4294967296 + e) / (d1 * 4294967296 + d0) = q) : u * 4294967296 + e - q * (d1 * 4294967296 + d0) = (u * 4294967296 + e) % (d1 * 4294967296 + d0) := by
  have := Int.mul_ediv_add_emod (u * 4294967296 + e) (d1 * 4294967296 + d0)
  rw [hq, Int.mul_comm] at this
  omega
end Go.Proofs.YthcndcanahhbcaaDoor

/-
  The plain arithmetic of a division of two words by one: the divisor is shifted up till its highest bit stands.
-/
set_option linter.unusedVariables false
set_option maxRecDepth 20000
set_option linter.unusedSectionVars false
set_option linter.unusedSimpArgs false
namespace Go.Proofs.YthcndcanahhbcaaDoor

theorem bitLenAux_spec : ∀ (f x : Nat), 0 < x → x < 2 ^ f → 1 ≤ Lib.bitLenAux f x ∧ 2 ^ (Lib.bitLenAux f x - 1) ≤ x ∧ x < 2 ^ Lib.bitLenAux f x
  | 0, x, h0, h => by simp at h; omega
  | f + 1, x, h0, h => by
    simp only [Lib.bitLenAux]
    rw [if_neg (by omega)]
    by_cases h1 : x / 2 = 0
    · have hx : x = 1 := by omega
      subst hx
      have : Lib.bitLenAux f (1 / 2) = 0 := by cases f <;> simp [Lib.bitLenAux]
      rw [this]; decide
    · have ih := bitLenAux_spec f (x / 2) (by omega) (by rw [Nat.pow_succ] at h; omega)
      generalize Lib.bitLenAux f (x / 2) = k at ih
      obtain ⟨j, rfl⟩ : ∃ j, k = j + 1 := ⟨k - 1, by omega⟩
      simp only [Nat.add_sub_cancel] at ih
      refine ⟨by omega, ?_, ?_⟩
      · rw [show 1 + (j + 1) - 1 = j + 1 by omega, Nat.pow_succ]; omega
      · rw [show 1 + (j + 1) = (j + 1) + 1 by omega, Nat.pow_succ]; omega
theorem bitLen_spec (x : Nat) (h0 : 0 < x) (h : x < 18446744073709551616) : 1 ≤ Lib.bitLen x ∧ Lib.bitLen x ≤ 64 ∧ 2 ^ (Lib.bitLen x - 1) ≤ x ∧ x < 2 ^ Lib.bitLen x := by
  have h1 := bitLenAux_spec 64 x h0 h
  have h2 : Lib.bitLen x ≤ 64 := by
    rcases Nat.lt_or_ge 64 (Lib.bitLen x) with h3 | h3
    · exfalso
      have h4 : 2 ^ 64 ≤ 2 ^ (Lib.bitLen x - 1) := Nat.pow_le_pow_right (by decide) (by omega)
      have h5 : 2 ^ (Lib.bitLen x - 1) ≤ x := h1.2.1
      have : (2 : Nat) ^ 64 = 18446744073709551616 := by decide
      omega
    · exact h3
  exact ⟨h1.1, h2, h1.2.1, h1.2.2⟩
/-- the shifted divisor has its highest bit -/
theorem norm_bd (y : Nat) (h0 : 0 < y) (h : y < 18446744073709551616) : 9223372036854775808 ≤ y * 2 ^ (64 - Lib.bitLen y) ∧ y * 2 ^ (64 - Lib.bitLen y) < 18446744073709551616 ∧ 64 - Lib.bitLen y < 64 := by
  obtain ⟨h1, h2, h3, h4⟩ := bitLen_spec y h0 h
  generalize hL : Lib.bitLen y = L at *
  have p1 : 2 ^ (L - 1) * 2 ^ (64 - L) = 9223372036854775808 := by rw [← Nat.pow_add, show L - 1 + (64 - L) = 63 by omega]
  have p2 : 2 ^ L * 2 ^ (64 - L) = 18446744073709551616 := by rw [← Nat.pow_add, show L + (64 - L) = 64 by omega]
  have hp : 0 < 2 ^ (64 - L) := Nat.pow_pos (by decide)
  exact ⟨by rw [← p1]; exact Nat.mul_le_mul_right _ h3, by rw [← p2]; exact Nat.mul_lt_mul_of_pos_right h4 hp, by omega⟩
/-- the two words shifted up, as three digits -/
theorem norm_join (hi lo y s : Nat) (hs : s < 64) (hh : hi < y) (hl : lo < 18446744073709551616) (hy : y * 2 ^ s < 18446744073709551616) :
    (hi * 2 ^ s) ||| (lo / 2 ^ (64 - s)) = hi * 2 ^ s + lo / 2 ^ (64 - s) ∧ (hi * 2 ^ s + lo / 2 ^ (64 - s)) * 18446744073709551616 + (lo * 2 ^ s) % 18446744073709551616 = (hi * 18446744073709551616 + lo) * 2 ^ s ∧ hi * 2 ^ s + lo / 2 ^ (64 - s) < y * 2 ^ s := by
  have hp : 0 < 2 ^ s := Nat.pow_pos (by decide)
  have hq : 0 < 2 ^ (64 - s) := Nat.pow_pos (by decide)
  have hpq : 2 ^ (64 - s) * 2 ^ s = 18446744073709551616 := by rw [← Nat.pow_add, show 64 - s + s = 64 by omega]
  have hlt : lo / 2 ^ (64 - s) < 2 ^ s := by
    rw [Nat.div_lt_iff_lt_mul hq, Nat.mul_comm, hpq]; exact hl
  have hsum : lo * 2 ^ s = (lo / 2 ^ (64 - s)) * 18446744073709551616 + (lo * 2 ^ s) % 18446744073709551616 := by
    have h1 : lo * 2 ^ s / 18446744073709551616 = lo / 2 ^ (64 - s) := by rw [← hpq, Nat.mul_div_mul_right _ _ hp]
    have h2 := Nat.div_add_mod (lo * 2 ^ s) 18446744073709551616
    rw [h1] at h2
    omega
  refine ⟨?_, ?_, ?_⟩
  · exact nat_join s _ _ (Nat.mul_mod_left _ _) hlt
  · rw [Nat.add_mul, Nat.add_mul, Nat.mul_right_comm hi 18446744073709551616 (2 ^ s)]
    omega
  · have : (hi + 1) * 2 ^ s ≤ y * 2 ^ s := Nat.mul_le_mul_right _ hh
    rw [Nat.add_mul] at this
    omega
/-- back again -/
theorem norm_back (n y s q r : Nat) (h : n * 2 ^ s = q * (y * 2 ^ s) + r) (hr : r < y * 2 ^ s) : q = n / y ∧ r / 2 ^ s = n % y := by
  have hp : 0 < 2 ^ s := Nat.pow_pos (by decide)
  have hy : 0 < y := by
    rcases Nat.eq_zero_or_pos y with h0 | h0
    · subst h0; simp at hr
    · exact h0
  have h1 : r = (n - q * y) * 2 ^ s := by
    rw [Nat.sub_mul, Nat.mul_assoc]; omega
  have h2 : n - q * y < y := by
    rw [h1] at hr; exact Nat.lt_of_mul_lt_mul_right hr
  have h3 : q * y ≤ n := by
    have : q * y * 2 ^ s ≤ n * 2 ^ s := by rw [h, Nat.mul_assoc]; omega
    exact Nat.le_of_mul_le_mul_right this hp
  have h4 : n = y * q + (n - q * y) := by rw [Nat.mul_comm y q]; omega
  constructor
  · rw [h4, Nat.mul_add_div hy, Nat.div_eq_of_lt h2]; omega
  · rw [h1, Nat.mul_div_cancel _ hp]
    conv => rhs; rw [h4]
    rw [Nat.mul_add_mod, Nat.mod_eq_of_lt h2]
end Go.Proofs.YthcndcanahhbcaaDoor

/-
  What math/bits.Div64 does: a contract.
-/
set_option linter.unusedVariables false
set_option linter.unusedSimpArgs false
set_option maxRecDepth 20000
set_option linter.unusedSectionVars false
namespace Go.Proofs.YthcndcanahhbcaaDoor
open Go.RowKit

theorem wrap3 {a e b R : Int} (h : a * 4294967296 + e - b = R) (h0 : 0 ≤ R) (h1 : R ≤ 18446744073709551615) : IntKind.u64.wrap (IntKind.u64.wrap (IntKind.u64.wrap (a * 4294967296) + e) - IntKind.u64.wrap b) = R := by
  simp only [IntKind.wrap, IntKind.bits, IntKind.signed]
  simp
  omega

set_option maxHeartbeats 8000000 in
theorem div64_core (hi lo y Y d1 d0 u v e1 e0 Q1 R1 Q0 R0 : Int) (S : Nat) (w : World) (hh : 0 < hi) (hl : 0 ≤ lo ∧ lo ≤ 18446744073709551615) (hy : hi < y ∧ y ≤ 18446744073709551615) (hS : S < 64)
    (hlz : Calls Tryd.prog 105 #[.int .u64 y] w fun e w' => e = .returned (.int .i64 (S : Int)) ∧ w = w')
    (hY : IntKind.u64.wrap (y * 2 ^ S) = Y) (hd1 : Y / 4294967296 = d1) (hd0 : bits BinOp.and IntKind.u64 Y 4294967295 = d0)
    (hu : bits BinOp.or IntKind.u64 (IntKind.u64.wrap (hi * 2 ^ S)) (lo / 2 ^ (64 - S)) = u) (hv : IntKind.u64.wrap (lo * 2 ^ S) = v) (he1 : v / 4294967296 = e1) (he0 : bits BinOp.and IntKind.u64 v 4294967295 = e0)
    (D1 : Dg u d1 d0 e1) (D0 : Dg R1 d1 d0 e0) (hYe : Y = d1 * 4294967296 + d0) (hY64 : Y ≤ 18446744073709551615)
    (hQ1 : (u * 4294967296 + e1) / (d1 * 4294967296 + d0) = Q1) (hR1 : u * 4294967296 + e1 - Q1 * Y = R1) (hQ0 : (R1 * 4294967296 + e0) / (d1 * 4294967296 + d0) = Q0) (hR0 : R1 * 4294967296 + e0 - Q0 * Y = R0) (hR0b : 0 ≤ R0 ∧ R0 ≤ 18446744073709551615) :
    Calls Tryd.prog 104 #[.int .u64 hi, .int .u64 lo, .int .u64 y] w fun e w' => e = .returned (.tuple #[.int .u64 (Q1 * 4294967296 + Q0), .int .u64 (R0 / 2 ^ S)]) ∧ ∃ m, w' = w.drewN m := by
  have hy0 : (y == 0) = false := by simp; omega
  have hh0 : (hi == 0) = false := by simp; omega
  have f1 := D1.first
  have f0 := D0.first
  rw [hQ1] at f1
  rw [hQ0] at f0
  have d1p := D1.a1
  have d1q := D1.a2
  have d0p := D1.b1
  have d0q := D1.b2
  have e1p := D1.e1
  have e1q := D1.e2
  have e0p := D0.e1
  have e0q := D0.e2
  have up := D1.u1
  have uq : u ≤ 18446744073709551615 := by have := D1.u2; omega
  have vp := D0.u1
  have vq : R1 ≤ 18446744073709551615 := by have := D0.u2; omega
  have hW1 : IntKind.u64.wrap (IntKind.u64.wrap (IntKind.u64.wrap (u * 4294967296) + e1) - IntKind.u64.wrap (Q1 * Y)) = R1 := wrap3 hR1 vp vq
  have hW0 : IntKind.u64.wrap (IntKind.u64.wrap (IntKind.u64.wrap (R1 * 4294967296) + e0) - IntKind.u64.wrap (Q0 * Y)) = R0 := wrap3 hR0 hR0b.1 hR0b.2
  have HQ1 : Hid ((u * 4294967296 + e1) / (d1 * 4294967296 + d0) = Q1) := hQ1
  have HQ0 : Hid ((R1 * 4294967296 + e0) / (d1 * 4294967296 + d0) = Q0) := hQ0
  have k1 : Q1 < 4294967296 := by rw [← hQ1]; exact D1.lt
  have k0 : Q0 < 4294967296 := by rw [← hQ0]; exact D0.lt
  have hq10 : 0 ≤ Q1 := by rw [← hQ1]; exact D1.nonneg
  have hq00 : 0 ≤ Q0 := by rw [← hQ0]; exact D0.nonneg
  clear hQ1 hYe hR1 hQ0 hR0
  obtain ⟨q, hq⟩ : ∃ q, u / d1 = q := ⟨_, rfl⟩
  obtain ⟨r, hr⟩ : ∃ r, u % d1 = r := ⟨_, rfl⟩
  rw [hq, hr] at f1
  obtain ⟨p2, hp2⟩ : ∃ q, R1 / d1 = q := ⟨_, rfl⟩
  obtain ⟨s2, hs2⟩ : ∃ r, R1 % d1 = r := ⟨_, rfl⟩
  rw [hp2, hs2] at f0
  obtain ⟨f1a, f1b, f1c, f1d, f1e⟩ := f1
  obtain ⟨f0a, f0b, f0c, f0d, f0e⟩ := f0
  have hqd0 : 0 ≤ q * d1 := Int.mul_nonneg (by omega) (by omega)
  have hqd1 : q * d1 ≤ 18446744073709551615 := by omega
  have hqr : u - q * d1 = r := by omega
  have hpd0 : 0 ≤ p2 * d1 := Int.mul_nonneg (by omega) (by omega)
  have hpd1 : p2 * d1 ≤ 18446744073709551615 := by omega
  have hpr : R1 - p2 * d1 = s2 := by omega
  have F1A : Hid (q * d1 + r = u) := f1a
  have F0A : Hid (p2 * d1 + s2 = R1) := f0a
  have D1H : Hid (Dg u d1 d0 e1) := D1
  have D0H : Hid (Dg R1 d1 d0 e0) := D0
  clear f1a hr f0a hs2 D1 D0
  go_enter Tryd.func104, Tryd.ntmps104
  go_wp2_with (first | (go_at_call 105; refine hlz.mono ?_; rintro e w' ⟨rfl, rfl⟩))
  go_loop [15, 16] (fun a b => ∃ q r, a = .int .u64 q ∧ b = .int .u64 r ∧ Hid (q * d1 + r = u) ∧ Q1 ≤ q ∧ q ≤ 4294967297 ∧ 0 ≤ r ∧ r < 4294967296) (fun a _ => (intOf a).toNat)
  case atStart => exact ⟨q, r, by first | rfl | rw [hq], rfl, F1A, f1b, f1c, f1d, f1e⟩
  case round =>
    clear f1b f1c f1d f1e hqd0 hqd1 F1A hqr
    obtain ⟨q1, r1, rfl, rfl, hqr, hge, hle, hr0, hr1⟩ := hrel
    have hm0 : 0 ≤ q1 * d0 := Int.mul_nonneg (by omega) d0p
    by_cases hbig : 4294967296 ≤ q1
    · have hg1 : Q1 ≤ q1 - 1 := by have := D1H.out.big' hbig; rw [HQ1.out] at this; exact this
      by_cases hb : r1 + d1 < 4294967296
      · go_wp2
        go_round
        case rel => exact ⟨q1 - 1, r1 + d1, rfl, rfl, by show _ = _; rw [Int.sub_mul]; have := hqr.out; omega, hg1, by omega, by omega, hb⟩
        case measure => simp [intOf]; omega
      · have hqq : q1 - 1 = Q1 := by
          have := D1H.out.right' (q := q1 - 1) (r := r1 + d1) (by rw [Int.sub_mul]; have := hqr.out; omega) (by rw [HQ1.out]; exact hg1) (by omega) (by omega)
          rw [HQ1.out] at this; exact this.symm
        go_wp2
        clear hqr hge hle hr0 hr1 hm0
        go_loop [18, 16] (fun a b => ∃ q r, a = .int .u64 q ∧ b = .int .u64 r ∧ Hid (q * d1 + r = R1) ∧ Q0 ≤ q ∧ q ≤ 4294967297 ∧ 0 ≤ r ∧ r < 4294967296) (fun a _ => (intOf a).toNat)
        case atStart => exact ⟨p2, s2, by first | rfl | rw [hp2], rfl, F0A, f0b, f0c, f0d, f0e⟩
        case round =>
          clear f0b f0c f0d f0e hpd0 hpd1 F0A hpr
          obtain ⟨q3, r3, rfl, rfl, hqr, hge, hle, hr0, hr1⟩ := hrel
          have hm0 : 0 ≤ q3 * d0 := Int.mul_nonneg (by omega) d0p
          by_cases hbig : 4294967296 ≤ q3
          · have hg1 : Q0 ≤ q3 - 1 := by have := D0H.out.big' hbig; rw [HQ0.out] at this; exact this
            by_cases hb : r3 + d1 < 4294967296
            · go_wp2
              go_round
              case rel => exact ⟨q3 - 1, r3 + d1, rfl, rfl, by show _ = _; rw [Int.sub_mul]; have := hqr.out; omega, hg1, by omega, by omega, hb⟩
              case measure => simp [intOf]; omega
            · have hqq : q3 - 1 = Q0 := by
                have := D0H.out.right' (q := q3 - 1) (r := r3 + d1) (by rw [Int.sub_mul]; have := hqr.out; omega) (by rw [HQ0.out]; exact hg1) (by omega) (by omega)
                rw [HQ0.out] at this; exact this.symm
              go_wp2
              go_ret2
              exact ⟨rfl, 0, rfl⟩
          · have hsm : q3 < 4294967296 := by omega
            have hm1 : q3 * d0 ≤ 4294967295 * 4294967295 := Int.mul_le_mul (by omega) (by omega) d0p (by decide)
            by_cases ht : 4294967296 * r3 + e0 < q3 * d0
            · have hg1 : Q0 ≤ q3 - 1 := by have := D0H.out.big hqr.out ht; rw [HQ0.out] at this; exact this
              by_cases hb : r3 + d1 < 4294967296
              · go_wp2
                go_round
                case rel => exact ⟨q3 - 1, r3 + d1, rfl, rfl, by show _ = _; rw [Int.sub_mul]; have := hqr.out; omega, hg1, by omega, by omega, hb⟩
                case measure => simp [intOf]; omega
              · have hqq : q3 - 1 = Q0 := by
                  have := D0H.out.right' (q := q3 - 1) (r := r3 + d1) (by rw [Int.sub_mul]; have := hqr.out; omega) (by rw [HQ0.out]; exact hg1) (by omega) (by omega)
                  rw [HQ0.out] at this; exact this.symm
                go_wp2
                go_ret2
                exact ⟨rfl, 0, rfl⟩
            · obtain rfl : Q0 = q3 := by
                have := D0H.out.right hqr.out (by rw [HQ0.out]; exact hge) (by omega)
                rw [HQ0.out] at this; exact this
              go_wp2
              go_ret2
              exact ⟨rfl, 0, rfl⟩
    · have hsm : q1 < 4294967296 := by omega
      have hm1 : q1 * d0 ≤ 4294967295 * 4294967295 := Int.mul_le_mul (by omega) (by omega) d0p (by decide)
      by_cases ht : 4294967296 * r1 + e1 < q1 * d0
      · have hg1 : Q1 ≤ q1 - 1 := by have := D1H.out.big hqr.out ht; rw [HQ1.out] at this; exact this
        by_cases hb : r1 + d1 < 4294967296
        · go_wp2
          go_round
          case rel => exact ⟨q1 - 1, r1 + d1, rfl, rfl, by show _ = _; rw [Int.sub_mul]; have := hqr.out; omega, hg1, by omega, by omega, hb⟩
          case measure => simp [intOf]; omega
        · have hqq : q1 - 1 = Q1 := by
            have := D1H.out.right' (q := q1 - 1) (r := r1 + d1) (by rw [Int.sub_mul]; have := hqr.out; omega) (by rw [HQ1.out]; exact hg1) (by omega) (by omega)
            rw [HQ1.out] at this; exact this.symm
          go_wp2
          clear hqr hge hle hr0 hr1 hm0
          go_loop [18, 16] (fun a b => ∃ q r, a = .int .u64 q ∧ b = .int .u64 r ∧ Hid (q * d1 + r = R1) ∧ Q0 ≤ q ∧ q ≤ 4294967297 ∧ 0 ≤ r ∧ r < 4294967296) (fun a _ => (intOf a).toNat)
          case atStart => exact ⟨p2, s2, by first | rfl | rw [hp2], rfl, F0A, f0b, f0c, f0d, f0e⟩
          case round =>
            clear f0b f0c f0d f0e hpd0 hpd1 F0A hpr
            obtain ⟨q3, r3, rfl, rfl, hqr, hge, hle, hr0, hr1⟩ := hrel
            have hm0 : 0 ≤ q3 * d0 := Int.mul_nonneg (by omega) d0p
            by_cases hbig : 4294967296 ≤ q3
            · have hg1 : Q0 ≤ q3 - 1 := by have := D0H.out.big' hbig; rw [HQ0.out] at this; exact this
              by_cases hb : r3 + d1 < 4294967296
              · go_wp2
                go_round
                case rel => exact ⟨q3 - 1, r3 + d1, rfl, rfl, by show _ = _; rw [Int.sub_mul]; have := hqr.out; omega, hg1, by omega, by omega, hb⟩
                case measure => simp [intOf]; omega
              · have hqq : q3 - 1 = Q0 := by
                  have := D0H.out.right' (q := q3 - 1) (r := r3 + d1) (by rw [Int.sub_mul]; have := hqr.out; omega) (by rw [HQ0.out]; exact hg1) (by omega) (by omega)
                  rw [HQ0.out] at this; exact this.symm
                go_wp2
                go_ret2
                exact ⟨rfl, 0, rfl⟩
            · have hsm : q3 < 4294967296 := by omega
              have hm1 : q3 * d0 ≤ 4294967295 * 4294967295 := Int.mul_le_mul (by omega) (by omega) d0p (by decide)
              by_cases ht : 4294967296 * r3 + e0 < q3 * d0
              · have hg1 : Q0 ≤ q3 - 1 := by have := D0H.out.big hqr.out ht; rw [HQ0.out] at this; exact this
                by_cases hb : r3 + d1 < 4294967296
                · go_wp2
                  go_round
                  case rel => exact ⟨q3 - 1, r3 + d1, rfl, rfl, by show _ = _; rw [Int.sub_mul]; have := hqr.out; omega, hg1, by omega, by omega, hb⟩
                  case measure => simp [intOf]; omega
                · have hqq : q3 - 1 = Q0 := by
                    have := D0H.out.right' (q := q3 - 1) (r := r3 + d1) (by rw [Int.sub_mul]; have := hqr.out; omega) (by rw [HQ0.out]; exact hg1) (by omega) (by omega)
                    rw [HQ0.out] at this; exact this.symm
                  go_wp2
                  go_ret2
                  exact ⟨rfl, 0, rfl⟩
              · obtain rfl : Q0 = q3 := by
                  have := D0H.out.right hqr.out (by rw [HQ0.out]; exact hge) (by omega)
                  rw [HQ0.out] at this; exact this
                go_wp2
                go_ret2
                exact ⟨rfl, 0, rfl⟩
      · obtain rfl : Q1 = q1 := by
          have := D1H.out.right hqr.out (by rw [HQ1.out]; exact hge) (by omega)
          rw [HQ1.out] at this; exact this
        go_wp2
        clear hqr hge hle hr0 hr1 hm0
        go_loop [18, 16] (fun a b => ∃ q r, a = .int .u64 q ∧ b = .int .u64 r ∧ Hid (q * d1 + r = R1) ∧ Q0 ≤ q ∧ q ≤ 4294967297 ∧ 0 ≤ r ∧ r < 4294967296) (fun a _ => (intOf a).toNat)
        case atStart => exact ⟨p2, s2, by first | rfl | rw [hp2], rfl, F0A, f0b, f0c, f0d, f0e⟩
        case round =>
          clear f0b f0c f0d f0e hpd0 hpd1 F0A hpr
          obtain ⟨q3, r3, rfl, rfl, hqr, hge, hle, hr0, hr1⟩ := hrel
          have hm0 : 0 ≤ q3 * d0 := Int.mul_nonneg (by omega) d0p
          by_cases hbig : 4294967296 ≤ q3
          · have hg1 : Q0 ≤ q3 - 1 := by have := D0H.out.big' hbig; rw [HQ0.out] at this; exact this
            by_cases hb : r3 + d1 < 4294967296
            · go_wp2
              go_round
              case rel => exact ⟨q3 - 1, r3 + d1, rfl, rfl, by show _ = _; rw [Int.sub_mul]; have := hqr.out; omega, hg1, by omega, by omega, hb⟩
              case measure => simp [intOf]; omega
            · have hqq : q3 - 1 = Q0 := by
                have := D0H.out.right' (q := q3 - 1) (r := r3 + d1) (by rw [Int.sub_mul]; have := hqr.out; omega) (by rw [HQ0.out]; exact hg1) (by omega) (by omega)
                rw [HQ0.out] at this; exact this.symm
              go_wp2
              go_ret2
              exact ⟨rfl, 0, rfl⟩
          · have hsm : q3 < 4294967296 := by omega
            have hm1 : q3 * d0 ≤ 4294967295 * 4294967295 := Int.mul_le_mul (by omega) (by omega) d0p (by decide)
            by_cases ht : 4294967296 * r3 + e0 < q3 * d0
            · have hg1 : Q0 ≤ q3 - 1 := by have := D0H.out.big hqr.out ht; rw [HQ0.out] at this; exact this
              by_cases hb : r3 + d1 < 4294967296
              · go_wp2
                go_round
                case rel => exact ⟨q3 - 1, r3 + d1, rfl, rfl, by show _ = _; rw [Int.sub_mul]; have := hqr.out; omega, hg1, by omega, by omega, hb⟩
                case measure => simp [intOf]; omega
              · have hqq : q3 - 1 = Q0 := by
                  have := D0H.out.right' (q := q3 - 1) (r := r3 + d1) (by rw [Int.sub_mul]; have := hqr.out; omega) (by rw [HQ0.out]; exact hg1) (by omega) (by omega)
                  rw [HQ0.out] at this; exact this.symm
                go_wp2
                go_ret2
                exact ⟨rfl, 0, rfl⟩
            · obtain rfl : Q0 = q3 := by
                have := D0H.out.right hqr.out (by rw [HQ0.out]; exact hge) (by omega)
                rw [HQ0.out] at this; exact this
              go_wp2
              go_ret2
              exact ⟨rfl, 0, rfl⟩
end Go.Proofs.YthcndcanahhbcaaDoor

/-
  What math/bits.Div64 does: a contract, in words of numbers.
-/
set_option linter.unusedVariables false
set_option linter.unusedSimpArgs false
set_option maxRecDepth 20000
set_option linter.unusedSectionVars false
namespace Go.Proofs.YthcndcanahhbcaaDoor
open Go.RowKit

theorem wrapNat (a : Nat) : IntKind.u64.wrap (a : Int) = ((a % 18446744073709551616 : Nat) : Int) := by
  simp only [IntKind.wrap, IntKind.bits, IntKind.signed]
  simp
theorem andLow (a : Nat) (h : a < 18446744073709551616) : bits BinOp.and IntKind.u64 (a : Int) 4294967295 = ((a % 4294967296 : Nat) : Int) := by
  have h1 := u64_and_nat a 4294967295 h (by decide)
  rw [show ((4294967295 : Nat) : Int) = 4294967295 from rfl] at h1
  rw [h1]
  have := Nat.and_two_pow_sub_one_eq_mod a 32
  rw [show (2 : Nat) ^ 32 - 1 = 4294967295 by decide, show (2 : Nat) ^ 32 = 4294967296 by decide] at this
  rw [this]
theorem powCast (s : Nat) : ((2 ^ s : Nat) : Int) = (2 : Int) ^ s := by simp

theorem div64_pos (h l y : Nat) (w : World) (hh : 0 < h) (hl : l < 18446744073709551616) (hy : h < y) (hy64 : y < 18446744073709551616) :
    Calls Tryd.prog 104 #[.int .u64 h, .int .u64 l, .int .u64 y] w fun e w' => e = .returned (.tuple #[.int .u64 (((h * 18446744073709551616 + l) / y : Nat) : Int), .int .u64 (((h * 18446744073709551616 + l) % y : Nat) : Int)]) ∧ ∃ m, w' = w.drewN m := by
  obtain ⟨n1, n2, n3⟩ := norm_bd y (by omega) hy64
  have hbl := bitLen_spec y (by omega) hy64
  obtain ⟨S, hS⟩ : ∃ S, 64 - Lib.bitLen y = S := ⟨_, rfl⟩
  rw [hS] at n1 n2 n3
  obtain ⟨j1, j2, j3⟩ := norm_join h l y S n3 hy hl n2
  have hlz : Calls Tryd.prog 105 #[.int .u64 y] w fun e w' => e = .returned (.int .i64 (S : Int)) ∧ w = w' := by
    refine (Tryd.bits_LeadingZeros64 (y : Int) w (by omega) (by omega)).mono fun e w' hw => ⟨?_, hw.2.symm⟩
    rw [hw.1, Int.toNat_natCast]
    have e0 : (64 : Int) - (Lib.bitLen y : Int) = (S : Int) := by omega
    rw [e0]
  obtain ⟨Y, hYn⟩ : ∃ Y, y * 2 ^ S = Y := ⟨_, rfl⟩
  obtain ⟨u, hun⟩ : ∃ u, h * 2 ^ S + l / 2 ^ (64 - S) = u := ⟨_, rfl⟩
  obtain ⟨v, hvn⟩ : ∃ v, l * 2 ^ S % 18446744073709551616 = v := ⟨_, rfl⟩
  have hv64 : v < 18446744073709551616 := by rw [← hvn]; exact Nat.mod_lt _ (by decide)
  have hhS : h * 2 ^ S < 18446744073709551616 := by
    have : h * 2 ^ S ≤ y * 2 ^ S := Nat.mul_le_mul_right _ (by omega)
    omega
  have hls : l / 2 ^ (64 - S) < 18446744073709551616 := Nat.lt_of_le_of_lt (Nat.div_le_self _ _) hl
  rw [hYn] at n1 n2 j3
  rw [hun] at j1 j2 j3
  rw [hvn] at j2
  -- the digits
  obtain ⟨d1, hd1⟩ : ∃ d1, Y / 4294967296 = d1 := ⟨_, rfl⟩
  obtain ⟨d0, hd0⟩ : ∃ d0, Y % 4294967296 = d0 := ⟨_, rfl⟩
  obtain ⟨e1, he1⟩ : ∃ e1, v / 4294967296 = e1 := ⟨_, rfl⟩
  obtain ⟨e0, he0⟩ : ∃ e0, v % 4294967296 = e0 := ⟨_, rfl⟩
  have hYd : Y = d1 * 4294967296 + d0 := by omega
  have hve : v = e1 * 4294967296 + e0 := by omega
  have hYpos : 0 < Y := by omega
  obtain ⟨Q1, hQ1⟩ : ∃ Q1, (u * 4294967296 + e1) / Y = Q1 := ⟨_, rfl⟩
  obtain ⟨R1, hR1⟩ : ∃ R1, (u * 4294967296 + e1) % Y = R1 := ⟨_, rfl⟩
  have hR1l : R1 < Y := by rw [← hR1]; exact Nat.mod_lt _ hYpos
  obtain ⟨Q0, hQ0⟩ : ∃ Q0, (R1 * 4294967296 + e0) / Y = Q0 := ⟨_, rfl⟩
  obtain ⟨R0, hR0⟩ : ∃ R0, (R1 * 4294967296 + e0) % Y = R0 := ⟨_, rfl⟩
  have hR0l : R0 < Y := by rw [← hR0]; exact Nat.mod_lt _ hYpos
  have m1 : Q1 * Y + R1 = u * 4294967296 + e1 := by
    have := Nat.div_add_mod (u * 4294967296 + e1) Y
    rw [hQ1, hR1, Nat.mul_comm] at this; exact this
  have m0 : Q0 * Y + R0 = R1 * 4294967296 + e0 := by
    have := Nat.div_add_mod (R1 * 4294967296 + e0) Y
    rw [hQ0, hR0, Nat.mul_comm] at this; exact this
  have cY : (d1 : Int) * 4294967296 + d0 = (Y : Int) := by omega
  have iQ1 : ((u : Int) * 4294967296 + e1) / (d1 * 4294967296 + d0) = Q1 := by
    rw [cY, show (u : Int) * 4294967296 + e1 = ((u * 4294967296 + e1 : Nat) : Int) by omega, ← Int.natCast_ediv, hQ1]
  have iQ0 : ((R1 : Int) * 4294967296 + e0) / (d1 * 4294967296 + d0) = Q0 := by
    rw [cY, show (R1 : Int) * 4294967296 + e0 = ((R1 * 4294967296 + e0 : Nat) : Int) by omega, ← Int.natCast_ediv, hQ0]
  have p1 : ((Q1 * Y : Nat) : Int) = (Q1 : Int) * Y := Int.natCast_mul ..
  have p0 : ((Q0 * Y : Nat) : Int) = (Q0 : Int) * Y := Int.natCast_mul ..
  have iR1 : (u : Int) * 4294967296 + e1 - Q1 * Y = R1 := by rw [← p1]; omega
  have iR0 : (R1 : Int) * 4294967296 + e0 - Q0 * Y = R0 := by rw [← p0]; omega
  have D1 : Dg (u : Int) d1 d0 e1 := ⟨by omega, by omega, by omega, by omega, by omega, by omega, by omega, by omega⟩
  have D0 : Dg (R1 : Int) d1 d0 e0 := ⟨by omega, by omega, by omega, by omega, by omega, by omega, by omega, by omega⟩
  have wY : IntKind.u64.wrap ((y : Int) * 2 ^ S) = (Y : Int) := by
    rw [← powCast, ← Int.natCast_mul, wrapNat, hYn, Nat.mod_eq_of_lt n2]
  have wv : IntKind.u64.wrap ((l : Int) * 2 ^ S) = (v : Int) := by
    rw [← powCast, ← Int.natCast_mul, wrapNat, hvn]
  have wu : bits BinOp.or IntKind.u64 (IntKind.u64.wrap ((h : Int) * 2 ^ S)) ((l : Int) / 2 ^ (64 - S)) = (u : Int) := by
    rw [← powCast, ← powCast, ← Int.natCast_mul, wrapNat, ← Int.natCast_ediv, Nat.mod_eq_of_lt hhS, u64_or_nat _ _ hhS hls, j1]
  have fin := norm_back (h * 18446744073709551616 + l) y S (Q1 * 4294967296 + Q0) R0 (by
    rw [← j2, hYn, Nat.add_mul, Nat.mul_right_comm]
    omega) (by rw [hYn]; exact hR0l)
  have core := div64_core (h : Int) l y Y d1 d0 u v e1 e0 Q1 R1 Q0 R0 S w (by omega) ⟨by omega, by omega⟩ ⟨by omega, by omega⟩ n3 hlz wY (by omega) (by rw [andLow Y n2, hd0]) wu wv (by omega) (by rw [andLow v hv64, he0]) D1 D0 cY.symm (by omega) iQ1 iR1 iQ0 iR0 ⟨by omega, by omega⟩
  refine core.mono fun e w' hw => ⟨?_, hw.2⟩
  rw [hw.1]
  have c1 : (Q1 : Int) * 4294967296 + Q0 = (((h * 18446744073709551616 + l) / y : Nat) : Int) := by rw [← fin.1]; omega
  have c2 : (R0 : Int) / 2 ^ S = (((h * 18446744073709551616 + l) % y : Nat) : Int) := by rw [← fin.2, ← powCast, ← Int.natCast_ediv]
  rw [c1, c2]

theorem div64_all (hi lo y : Int) (w : World) (h0 : 0 ≤ hi) (hy : hi < y) (hy64 : y ≤ 18446744073709551615) (hl : 0 ≤ lo ∧ lo ≤ 18446744073709551615) :
    Calls Tryd.prog 104 #[.int .u64 hi, .int .u64 lo, .int .u64 y] w fun e w' => e = .returned (.tuple #[.int .u64 ((hi * 18446744073709551616 + lo) / y), .int .u64 ((hi * 18446744073709551616 + lo) % y)]) ∧ ∃ m, w' = w.drewN m := by
  by_cases e : hi = 0
  · subst e
    have := div64_0 lo y w hl ⟨by omega, hy64⟩
    simpa using this
  · obtain ⟨h, rfl⟩ := Int.eq_ofNat_of_zero_le h0
    obtain ⟨l, rfl⟩ := Int.eq_ofNat_of_zero_le hl.1
    obtain ⟨z, rfl⟩ := Int.eq_ofNat_of_zero_le (show 0 ≤ y by omega)
    refine (div64_pos h l z w (by omega) (by omega) (by omega) (by omega)).mono fun e w' hw => ⟨?_, hw.2⟩
    rw [hw.1, Int.natCast_ediv, Int.natCast_emod, Int.natCast_add, Int.natCast_mul]
    rfl
end Go.Proofs.YthcndcanahhbcaaDoor

/-
  A quotient times the divisor, and the rest, is the number: the plain arithmetic; what limbs.Of does; what limbs.Div does by 0.
-/
set_option linter.unusedVariables false
set_option linter.unusedSimpArgs false
set_option maxRecDepth 20000
set_option linter.unusedSectionVars false
namespace Go.Proofs.YthcndcanahhbcaaDoor
open Go.RowKit
attribute [local go_sem] setCell_drewN alloc_drewN

theorem quoW_words {x : Nat → Int} {d : Int} (hx : Words x) (hd : 0 < d) (n : Nat) : Words (quoW x d n) := fun j => by
  have hr := remJ_bd x d n (n - 1 - j) hd
  have hb := hx j
  unfold quoW
  refine ⟨Int.ediv_nonneg (by omega) (by omega), ?_⟩
  have : (remJ x d n (n - 1 - j) * 18446744073709551616 + x j) / d < 18446744073709551616 := by
    apply Int.ediv_lt_of_lt_mul hd
    rw [Int.mul_comm 18446744073709551616 d]
    have : (remJ x d n (n - 1 - j) + 1) * 18446744073709551616 ≤ d * 18446744073709551616 := Int.mul_le_mul_of_nonneg_right (by omega) (by decide)
    omega
  omega
theorem div_val (x : Nat → Int) (d : Int) (n : Nat) : ∀ j, j ≤ n → val x (n - j) + remJ x d n j * 18446744073709551616 ^ (n - j) + d * (val (quoW x d n) n - val (quoW x d n) (n - j)) = val x n
  | 0, _ => by simp [remJ]
  | j + 1, h => by
    have ih := div_val x d n j (by omega)
    obtain ⟨k, hk⟩ : ∃ k, n - j = k + 1 := ⟨n - j - 1, by omega⟩
    have hk2 : n - (j + 1) = k := by omega
    have hk3 : n - 1 - j = k := by omega
    have hk4 : n - 1 - k = j := by omega
    rw [hk] at ih
    rw [hk2]
    have hq : quoW x d n k = (remJ x d n j * 18446744073709551616 + x k) / d := by unfold quoW; rw [hk4]
    have hr : remJ x d n (j + 1) = (remJ x d n j * 18446744073709551616 + x k) % d := by simp only [remJ]; rw [hk3]
    have hdm := Int.mul_ediv_add_emod (remJ x d n j * 18446744073709551616 + x k) d
    rw [← hq, ← hr] at hdm
    simp only [val] at ih
    rw [Int.pow_succ] at ih
    generalize (18446744073709551616 : Int) ^ k = p at *
    generalize remJ x d n (j + 1) = r' at *
    generalize remJ x d n j = r at *
    generalize quoW x d n k = q at *
    have e1 : x k = d * q + r' - r * 18446744073709551616 := by omega
    rw [e1] at ih
    grind
theorem sum_val {x y : Nat → Int} : ∀ n, val (sumW x y) n + carryW x y n * 18446744073709551616 ^ n = val x n + val y n
  | 0 => by simp [val, carryW]
  | n + 1 => by
    have ih := sum_val (x := x) (y := y) n
    have e1 : sumW x y n + carryW x y (n + 1) * 18446744073709551616 = x n + y n + carryW x y n := by simp only [sumW, carryW]; omega
    simp only [val]
    rw [Int.pow_succ]
    generalize (18446744073709551616 : Int) ^ n = p at *
    generalize carryW x y (n + 1) = c' at *
    have e2 : sumW x y n = x n + y n + carryW x y n - c' * 18446744073709551616 := by omega
    rw [e2]
    grind
theorem val_one (r : Int) : ∀ n, 0 < n → val (oneW r) n = r
  | 0, h => by omega
  | 1, _ => by simp [val, oneW]
  | n + 2, _ => by
    have ih := val_one r (n + 1) (by omega)
    show val (oneW r) (n + 1) + oneW r (n + 1) * _ = r
    rw [ih]; simp [oneW]
/-- the quotient times the divisor and the rest -/
theorem div_back {x : Nat → Int} {d : Int} (hx : Words x) (hd : 0 < d ∧ d ≤ 18446744073709551615) (n : Nat) (hn : 0 < n) :
    mulC (quoW x d n) d n = 0 ∧ carryW (mulP (quoW x d n) d) (oneW (remJ x d n n)) n = 0 ∧ ∀ i, i < n → sumW (mulP (quoW x d n) d) (oneW (remJ x d n n)) i = x i := by
  have hq := quoW_words hx hd.1 n
  have hr := remJ_bd x d n n hd.1
  have h1 := div_val x d n n (Nat.le_refl _)
  simp only [Nat.sub_self, val, Int.pow_zero, Int.mul_one, Int.sub_zero, Int.zero_add] at h1
  have h2 := mul_val (quoW x d n) d n
  have h3 := sum_val (x := mulP (quoW x d n) d) (y := oneW (remJ x d n n)) n
  rw [val_one _ n hn] at h3
  have ho : Words (oneW (remJ x d n n)) := fun i => by unfold oneW; split; exact ⟨hr.1, by omega⟩; decide
  have c1 := (mulC_word hq ⟨Int.le_of_lt hd.1, hd.2⟩ n).1
  have c2 := (carryW_01 (mulP_words (quoW x d n) d) ho n).1
  have b1 := val_bd hx n
  have b2 := val_bd (sumW_words (mulP (quoW x d n) d) (oneW (remJ x d n n))) n
  have hp := pw_pos n
  generalize hM : mulC (quoW x d n) d n = M at *
  generalize hC : carryW (mulP (quoW x d n) d) (oneW (remJ x d n n)) n = C at *
  have h4 : d * val (quoW x d n) n = val (quoW x d n) n * d := Int.mul_comm ..
  have h5 : val (sumW (mulP (quoW x d n) d) (oneW (remJ x d n n))) n + (C + M) * 18446744073709551616 ^ n = val x n := by rw [Int.add_mul]; omega
  have h6 : C + M = 0 := by
    rcases Int.lt_or_le 0 (C + M) with h | h
    · exfalso
      have : 1 * 18446744073709551616 ^ n ≤ (C + M) * 18446744073709551616 ^ n := Int.mul_le_mul_of_nonneg_right (by omega) (Int.le_of_lt hp)
      omega
    · omega
  refine ⟨by omega, by omega, ?_⟩
  rw [h6, Int.zero_mul, Int.add_zero] at h5
  exact val_inj (sumW_words _ _) hx n h5

set_option maxHeartbeats 400000 in
theorem limDiv_ok (x : Nat → Int) (d : Int) (n : Nat) (hx : Words x) (hd : 0 < d ∧ d ≤ 18446744073709551615) (j : Nat) (hj : j < n) (w : World) : Calls Tryd.prog 104 #[.int .u64 (remJ x d n (n - 1 - j)), .int .u64 (x j), .int .u64 d] w fun e w' => e = .returned (.tuple #[.int .u64 (quoW x d n j), .int .u64 (remJ x d n (n - j))]) ∧ ∃ m, w' = w.drewN m := by
  have hr := remJ_bd x d n (n - 1 - j) hd.1
  have h := div64_all (remJ x d n (n - 1 - j)) (x j) d w hr.1 hr.2 hd.2 (hx j)
  have e1 : remJ x d n (n - j) = (remJ x d n (n - 1 - j) * 18446744073709551616 + x j) % d := by
    obtain ⟨k, hk⟩ : ∃ k, n - j = k + 1 := ⟨n - j - 1, by omega⟩
    rw [hk, show n - 1 - j = k by omega]
    simp only [remJ]; rw [show n - 1 - k = j by omega]
  rw [e1]; exact h
theorem eqInt (d : Nat) (a : Int) (w : World) : (Op.equalIn (d + 1) 25 (.int .u64 a) (.int .u64 a)).run Tryd.prog w = .ok true w := by
  rw [run_equalIn_int w d 25 .u64 .u64 a a Tryd.underlying25]; simp
end Go.Proofs.YthcndcanahhbcaaDoor

/-
  What nat's divideBy does: a contract.
-/
set_option linter.unusedVariables false
set_option linter.unusedSimpArgs false
set_option maxRecDepth 20000
set_option linter.unusedSectionVars false
namespace Go.Proofs.YthcndcanahhbcaaDoor
open Go.RowKit

/-- the quotient's words from word k on, the number's own below it -/
def divZ (x : Nat → Int) (d : Int) (m k i : Nat) : Int := if k ≤ i ∧ i < m then quoW x d m i else x i

set_option maxHeartbeats 1000000 in
theorem divideBy_any (g N m c : Nat) (x : Nat → Int) (d : Int) (w : World) (hm : m ≤ N) (hm2 : m < 4294967296) (hx : Words x) (hd : 0 < d ∧ d ≤ 18446744073709551615) (h : Own g N x w) :
    Calls Tryd.prog 91 #[.slice (some ⟨g, 0, none⟩) m c, .int .u64 d] w fun e w' => e = .returned (.int .u64 (remJ x d m m)) ∧ Own g N (divZ x d m 0) w' ∧ Upd g w w' := by
  have H := fun j hj w => limDiv_ok x d m hx hd j hj w
  have hd0 : (d == 0) = false := by simp; omega
  go_enter Tryd.func91, Tryd.ntmps91
  go_wp2
  go_loopw [5, 6, 14] (fun c i u14 wr => ∃ (k : Nat), k ≤ m ∧ i = .int .i64 ((k : Int) - 1) ∧ c = .int .u64 (remJ x d m (m - k)) ∧ Own g N (divZ x d m k) wr ∧ Upd g w wr) (fun _ i _ _ => (intOf i + 1).toNat)
  case atStart => exact ⟨m, Nat.le_refl _, rfl, by rw [Nat.sub_self]; rfl, h.congr fun i _ => by unfold divZ; rw [if_neg (by omega)], Upd.refl _ _⟩
  case round =>
    obtain ⟨k, hk, rfl, rfl, hO, hU⟩ := hrel
    by_cases h0 : k = 0
    · subst h0
      have HO : Hid (Own g N (divZ x d m 0) wr) := hO
      have HU : Hid (Upd g w wr) := hU
      clear hO hU H
      go_wp2
      go_ret
      exact ⟨rfl, HO.out, HU.out⟩
    · obtain ⟨j, rfl⟩ : ∃ j, k = j + 1 := ⟨k - 1, by omega⟩
      have hjm : (j : Int) < m := by omega
      have ej : ((j + 1 : Nat) : Int) - 1 = j := by omega
      have ej2 : m - (j + 1) = m - 1 - j := by omega
      rw [ej, ej2]
      have hcj := hO.cell j (by omega)
      have hzj : divZ x d m (j + 1) j = x j := by unfold divZ; rw [if_neg (by omega)]
      rw [hzj] at hcj
      have hfj := hO.frozen j
      have HJ := H j (by omega)
      have HO : Hid (Own g N (divZ x d m j) (wr.setCell ⟨g, j, none⟩ (.int .u64 (quoW x d m j)))) := (hO.set j (quoW x d m j)).congr fun i hi => by
        unfold divZ
        by_cases e : i = j
        · subst e; rw [if_pos rfl, if_pos (by omega)]
        · rw [if_neg e]
          by_cases e2 : j + 1 ≤ i ∧ i < m
          · rw [if_pos e2, if_pos (by omega)]
          · rw [if_neg e2, if_neg (by omega)]
      have HU : Hid (Upd g w (wr.setCell ⟨g, j, none⟩ (.int .u64 (quoW x d m j)))) := hU.set j _
      clear hO hU H ej ej2 hzj
      go_wp2_with (go_at_call 104; refine (HJ _).mono ?_; rintro e w' ⟨rfl, m', rfl⟩)
      go_roundw
      case rel => exact ⟨j, by omega, by go_num, rfl, HO.out, HU.out.drewN m'⟩
      case measure => simp [intOf]
end Go.Proofs.YthcndcanahhbcaaDoor

/-
  Comparing: what cmp.Compare, nat's Cmp, the document's Cmp, Same, Trimmed and the statements' same and few do: contracts.
-/
set_option linter.unusedVariables false
set_option linter.unusedSimpArgs false
set_option maxRecDepth 20000
set_option linter.unusedSectionVars false
namespace Go.Proofs.YthcndcanahhbcaaDoor
open Go.RowKit

theorem sizeL_congr {x y : Nat → Int} : ∀ n, (∀ i, i < n → x i = y i) → sizeL x n = sizeL y n
  | 0, _ => rfl
  | n + 1, h => by simp only [sizeL]; rw [h n (by omega), sizeL_congr n fun i hi => h i (by omega)]
theorem val_bare {x : Nat → Int} (m : Nat) : val x (sizeL x m) = val x m := by
  have h1 := val_more (sizeL_zero m fun i hi => segW_zero x 0 m i hi) m (sizeL_le _ m)
  have h2 : sizeL (segW x 0 m) m = sizeL x m := sizeL_congr m fun i hi => by rw [segW_lt x 0 m i hi, Nat.zero_add]
  rw [h2] at h1
  have hle := sizeL_le x m
  rw [val_congr (x := segW x 0 m) (y := x) m fun i hi => by rw [segW_lt x 0 m i hi, Nat.zero_add], val_congr (x := segW x 0 m) (y := x) (sizeL x m) fun i hi => by rw [segW_lt x 0 m i (by omega), Nat.zero_add]] at h1
  exact h1.symm

/-- -1, 0, 1 -/
def sgn (a b : Int) : Int := if a < b then -1 else if b < a then 1 else 0
theorem sgn_neg (a b : Int) : sgn b a = - sgn a b := by unfold sgn; split <;> split <;> first | omega | (split <;> omega) | rfl
theorem sgn_add (a b t : Int) : sgn (a + t) (b + t) = sgn a b := by
  unfold sgn
  by_cases h : a < b
  · rw [if_pos h, if_pos (by omega)]
  · rw [if_neg h, if_neg (by omega)]
    by_cases h' : b < a
    · rw [if_pos h', if_pos (by omega)]
    · rw [if_neg h', if_neg (by omega)]
theorem sgn_bd (a b : Int) : -1 ≤ sgn a b ∧ sgn a b ≤ 1 := by unfold sgn; split <;> (try split) <;> omega

theorem drw2 (w : World) (m a b : Nat) : ∃ k, w.drewN k = ((w.drewN m).drewN a).drewN b := ⟨m + a + b, by simp [World.drewN, Nat.add_assoc]⟩
theorem compare_u64 (a b : Int) (w : World) : Calls Tryd.prog 90 #[.int .u64 a, .int .u64 b] w fun e w' => e = .returned (.int .i64 (sgn a b)) ∧ w = w' := by
  have hN : ∀ (a : Int), Calls Tryd.prog 103 #[.int .u64 a] w fun e w' => e = .returned (.bool false) ∧ w = w' := by
    intro a
    go_enter Tryd.func103, Tryd.ntmps103
    go_wp2
    go_ret
    exact ⟨rfl, rfl⟩
  have ha := hN a
  have hb := hN b
  clear hN
  by_cases h1 : a < b
  · have HS : Hid (sgn a b = -1) := by show _ = _; unfold sgn; rw [if_pos h1]
    go_enter Tryd.func90, Tryd.ntmps90
    go_wp2_with (go_at_call 103; first | (refine ha.mono ?_; rintro e w' ⟨rfl, rfl⟩) | (refine hb.mono ?_; rintro e w' ⟨rfl, rfl⟩))
    go_ret
    exact ⟨ret_int HS.out.symm, rfl⟩
  · by_cases h2 : b < a
    · have HS : Hid (sgn a b = 1) := by show _ = _; unfold sgn; rw [if_neg h1, if_pos h2]
      go_enter Tryd.func90, Tryd.ntmps90
      go_wp2_with (go_at_call 103; first | (refine ha.mono ?_; rintro e w' ⟨rfl, rfl⟩) | (refine hb.mono ?_; rintro e w' ⟨rfl, rfl⟩))
      go_ret
      exact ⟨ret_int HS.out.symm, rfl⟩
    · have HS : Hid (sgn a b = 0) := by show _ = _; unfold sgn; rw [if_neg h1, if_neg h2]
      go_enter Tryd.func90, Tryd.ntmps90
      go_wp2_with (go_at_call 103; first | (refine ha.mono ?_; rintro e w' ⟨rfl, rfl⟩) | (refine hb.mono ?_; rintro e w' ⟨rfl, rfl⟩))
      go_ret
      exact ⟨ret_int HS.out.symm, rfl⟩
theorem compare_int (a b : Int) (w : World) : Calls Tryd.prog 89 #[.int .i64 a, .int .i64 b] w fun e w' => e = .returned (.int .i64 (sgn a b)) ∧ w = w' := by
  have hN : ∀ (a : Int), Calls Tryd.prog 102 #[.int .i64 a] w fun e w' => e = .returned (.bool false) ∧ w = w' := by
    intro a
    go_enter Tryd.func102, Tryd.ntmps102
    go_wp2
    go_ret
    exact ⟨rfl, rfl⟩
  have ha := hN a
  have hb := hN b
  clear hN
  by_cases h1 : a < b
  · have HS : Hid (sgn a b = -1) := by show _ = _; unfold sgn; rw [if_pos h1]
    go_enter Tryd.func89, Tryd.ntmps89
    go_wp2_with (go_at_call 102; first | (refine ha.mono ?_; rintro e w' ⟨rfl, rfl⟩) | (refine hb.mono ?_; rintro e w' ⟨rfl, rfl⟩))
    go_ret
    exact ⟨ret_int HS.out.symm, rfl⟩
  · by_cases h2 : b < a
    · have HS : Hid (sgn a b = 1) := by show _ = _; unfold sgn; rw [if_neg h1, if_pos h2]
      go_enter Tryd.func89, Tryd.ntmps89
      go_wp2_with (go_at_call 102; first | (refine ha.mono ?_; rintro e w' ⟨rfl, rfl⟩) | (refine hb.mono ?_; rintro e w' ⟨rfl, rfl⟩))
      go_ret
      exact ⟨ret_int HS.out.symm, rfl⟩
    · have HS : Hid (sgn a b = 0) := by show _ = _; unfold sgn; rw [if_neg h1, if_neg h2]
      go_enter Tryd.func89, Tryd.ntmps89
      go_wp2_with (go_at_call 102; first | (refine ha.mono ?_; rintro e w' ⟨rfl, rfl⟩) | (refine hb.mono ?_; rintro e w' ⟨rfl, rfl⟩))
      go_ret
      exact ⟨ret_int HS.out.symm, rfl⟩

/-- comparing words from the highest on is comparing values -/
theorem cmpL_val {x y : Nat → Int} (hx : Words x) (hy : Words y) : ∀ n, cmpL x y n = sgn (val x n) (val y n)
  | 0 => by simp [cmpL, sgn, val]
  | n + 1 => by
    have hxb := val_bd hx n
    have hyb := val_bd hy n
    have ih := cmpL_val hx hy n
    have hp := pw_pos n
    have e1 : val x (n + 1) = val x n + x n * 18446744073709551616 ^ n := rfl
    have e2 : val y (n + 1) = val y n + y n * 18446744073709551616 ^ n := rfl
    rw [e1, e2]
    simp only [cmpL]
    generalize (18446744073709551616 : Int) ^ n = P at *
    by_cases h1 : x n < y n
    · rw [if_pos h1]
      have : (x n + 1) * P ≤ y n * P := Int.mul_le_mul_of_nonneg_right (by omega) (by omega)
      rw [Int.add_mul, Int.one_mul] at this
      unfold sgn; rw [if_pos (by omega)]
    · rw [if_neg h1]
      by_cases h2 : y n < x n
      · rw [if_pos h2]
        have : (y n + 1) * P ≤ x n * P := Int.mul_le_mul_of_nonneg_right (by omega) (by omega)
        rw [Int.add_mul, Int.one_mul] at this
        unfold sgn; rw [if_neg (by omega), if_pos (by omega)]
      · have e : x n = y n := by omega
        rw [if_neg h2, ih, e, sgn_add]
/-- the longer one of two trimmed numbers is the greater -/
theorem val_longer {x y : Nat → Int} (hx : Words x) (hy : Words y) {n m : Nat} (h : n < m) (hm : sizeL y m = m) : val x n < val y m := by
  obtain ⟨k, rfl⟩ : ∃ k, m = k + 1 := ⟨m - 1, by omega⟩
  have hne : y k ≠ 0 := by
    intro e
    have : sizeL y (k + 1) = sizeL y k := by simp [sizeL, e]
    have := sizeL_le y k
    omega
  have h1 := (val_bd hx n).2
  have h2 := (val_bd hy k).1
  have h3 := pw_pos k
  have h4 := hy k
  have h5 : (18446744073709551616 : Int) ^ n ≤ 18446744073709551616 ^ k := by
    obtain ⟨q, rfl⟩ : ∃ q, k = n + q := ⟨k - n, by omega⟩
    rw [Int.pow_add]
    have := pw_pos n
    have := pw_pos q
    have : (18446744073709551616 : Int) ^ n * 1 ≤ 18446744073709551616 ^ n * 18446744073709551616 ^ q := Int.mul_le_mul_of_nonneg_left (by omega) (by omega)
    omega
  show _ < val y k + y k * 18446744073709551616 ^ k
  have : 1 * 18446744073709551616 ^ k ≤ y k * 18446744073709551616 ^ k := Int.mul_le_mul_of_nonneg_right (by omega) (by omega)
  omega

set_option maxHeartbeats 1000000 in
theorem ncmp_any (a a' : Option Addr) (n c n' c' : Nat) (x y : Nat → Int) (w : World) (hn : n < 4294967296) (hn' : n' < 4294967296) (h : Num w a n c x) (h' : Num w a' n' c' y) :
    Calls Tryd.prog 58 #[.slice a n c, .slice a' n' c'] w fun e w' => e = .returned (.int .i64 (sgn (val x n) (val y n'))) ∧ ∃ m, w.drewN m = w' := by
  have hb := bare_any a n c x w hn h
  have hb' := bare_any a' n' c' y w hn' h'
  rw [← val_bare n, ← val_bare n']
  have hx := h.2.2.1
  have hy := h'.2.2.1
  have h1 := sizeL_sizeL x n
  have h1' := sizeL_sizeL y n'
  have hle := sizeL_le x n
  have hle' := sizeL_le y n'
  have hN := h.bare
  have hN' := h'.bare
  generalize sizeL x n = s at *
  generalize sizeL y n' = s' at *
  have HV : Hid (∀ k, cmpL x y k = sgn (val x k) (val y k)) := cmpL_val hx hy
  have HL1 : Hid (s < s' → sgn (val x s) (val y s') = sgn s s') := fun hlt => by
    have := val_longer hx hy hlt h1'
    unfold sgn; rw [if_pos this, if_pos (by omega)]
  have HL2 : Hid (s' < s → sgn (val x s) (val y s') = sgn s s') := fun hlt => by
    have := val_longer hy hx hlt h1
    unfold sgn; rw [if_neg (by omega), if_pos this, if_neg (by omega), if_pos (by omega)]
  clear h h' h1 h1' hx hy
  by_cases e : s = s'
  · subst e
    have hc : ∀ i, i < s → ∃ b off, a = some ⟨b, off, none⟩ ∧ w.cell? ⟨b, off + i, none⟩ = some (.int .u64 (x i)) := by
      intro i hi
      have h5 := hN.2.2.2.2
      rcases h5 with ⟨_, h⟩ | ⟨b, off, h, _, hc⟩
      · have := hN.1; omega
      · exact ⟨b, off, h, hc i hi⟩
    have hc' : ∀ i, i < s → ∃ b off, a' = some ⟨b, off, none⟩ ∧ w.cell? ⟨b, off + i, none⟩ = some (.int .u64 (y i)) := by
      intro i hi
      have h5 := hN'.2.2.2.2
      rcases h5 with ⟨_, h⟩ | ⟨b, off, h, _, hc⟩
      · have := hN'.1; omega
      · exact ⟨b, off, h, hc i hi⟩
    clear hN hN' HL1 HL2
    go_enter Tryd.func58, Tryd.ntmps58
    go_wp2_with (first | (go_at_call_of 54 (Value.slice a n c); refine hb.mono ?_; rintro e w' ⟨rfl, rfl⟩) | (go_at_call_of 54 (Value.slice a' n' c'); refine hb'.mono ?_; rintro e w' ⟨rfl, rfl⟩))
    go_loopw [7] (fun t wr => ∃ k m : Nat, k ≤ s ∧ cmpL x y k = cmpL x y s ∧ t = .int .i64 ((k : Int) - 1) ∧ w.drewN m = wr) (fun t _ => (intOf t + 1).toNat)
    case atStart => exact ⟨s, 0, Nat.le_refl _, rfl, by go_num, rfl⟩
    case round =>
      obtain ⟨k, m, hk, hs, rfl, rfl⟩ := hrel
      by_cases h0 : k = 0
      · subst h0
        have HS : Hid (sgn (val x s) (val y s) = 0) := by show _ = _; rw [← HV.out, ← hs]; rfl
        clear hs hc hc'
        go_wp2
        go_ret
        exact ⟨ret_int HS.out.symm, _, rfl⟩
      · obtain ⟨j, rfl⟩ : ∃ j, k = j + 1 := ⟨k - 1, by omega⟩
        have ej : ((j + 1 : Nat) : Int) - 1 = j := by omega
        have hjs : (j : Int) < s := by omega
        rw [ej]
        obtain ⟨b, off, rfl, hcj⟩ := hc j (by omega)
        obtain ⟨b', off', rfl, hcj'⟩ := hc' j (by omega)
        have hs' : (if x j < y j then -1 else if y j < x j then 1 else cmpL x y j) = cmpL x y s := hs
        have hcmp := compare_u64 (x j) (y j)
        by_cases he : x j = y j
        · have HR : Hid (cmpL x y j = cmpL x y s) := by rw [← hs', if_neg (by omega), if_neg (by omega)]; rfl
          have hne : (x j != y j) = false := by simp [he]
          rw [he] at hcj
          clear hs hs' hc hc' hcmp
          go_wp2
          go_quiet (fail)
          go_wp2
          go_roundw
          case rel => exact ⟨j, m + nq, by omega, HR.out, by go_num, rfl⟩
          case measure => simp [intOf]
        · have HR : Hid (sgn (val x s) (val y s) = sgn (x j) (y j)) := by
            show _ = _
            rw [← HV.out, ← hs']
            unfold sgn
            by_cases h1 : x j < y j
            · rw [if_pos h1, if_pos h1]
            · rw [if_neg h1, if_neg h1, if_pos (by omega), if_pos (by omega)]
          have hne : (x j != y j) = true := by simp [he]
          clear hs hs' hc hc'
          go_wp2
          go_quiet (fail)
          go_wp2
          go_quiet ((go_at_call 90; exact (hcmp _).mono fun _ _ h => ⟨h.1, _, h.2.symm⟩))
          go_wp2
          go_ret
          exact ⟨ret_int HR.out.symm, drw2 _ _ _ _⟩
  · have hne : ((s : Int) != s') = true := by simp; omega
    have hcmp := compare_int s s' w
    have HR : Hid (sgn (val x s) (val y s') = sgn s s') := by
      rcases Nat.lt_or_gt_of_ne e with h | h
      · exact HL1.out h
      · exact HL2.out h
    clear HL1 HL2 hN hN'
    go_enter Tryd.func58, Tryd.ntmps58
    go_wp2_with (first | (first | (go_at_call_of 54 (Value.slice a n c); refine hb.mono ?_; rintro e w' ⟨rfl, rfl⟩) | (go_at_call_of 54 (Value.slice a' n' c'); refine hb'.mono ?_; rintro e w' ⟨rfl, rfl⟩)) | (go_at_call 89; refine hcmp.mono ?_; rintro e w' ⟨rfl, rfl⟩))
    go_ret
    exact ⟨ret_int HR.out.symm, 0, rfl⟩

theorem rcmp_any (a a' : Option Addr) (n c n' c' : Nat) (x y : Nat → Int) (w : World) (hn : n < 4294967296) (hn' : n' < 4294967296) (h : Num w a n c x) (h' : Num w a' n' c' y) :
    Calls Tryd.prog 21 #[.slice a n c, .slice a' n' c'] w fun e w' => e = .returned (.int .i64 (sgn (val x n) (val y n'))) ∧ w = w' := by
  refine (cmp_any a a' n c n' c' x y w hn hn' h h').mono fun e w' hw => ⟨?_, hw.2.symm⟩
  rw [hw.1, cmpL_val h.2.2.1 h'.2.2.1, val_more h.2.2.2.1 _ (Nat.le_max_left n n'), val_more h'.2.2.2.1 _ (Nat.le_max_right n n')]
theorem sgn_self (a : Int) : sgn a a = 0 := by unfold sgn; rw [if_neg (by omega), if_neg (by omega)]
theorem size_num (a : Option Addr) (n c : Nat) (x : Nat → Int) (w : World) (hn : n < 4294967296) (h : Num w a n c x) :
    Calls Tryd.prog 19 #[.slice a n c] w fun e w' => e = .returned (.int .i64 (sizeL x n)) ∧ w = w' := by
  have h' := h
  obtain ⟨h1, h2, h3, h4, h5⟩ := h'
  rcases h5 with ⟨rfl, rfl⟩ | ⟨b, off, rfl, hb, hc⟩
  · obtain rfl : n = 0 := by omega
    exact (size_nil w).mono fun e w' hw => ⟨hw.1, hw.2.symm⟩
  · exact (size_any b off n c x w (by omega) hc).mono fun e w' hw => ⟨hw.1, hw.2.symm⟩

set_option maxHeartbeats 400000 in
theorem rsame_any (a a' : Option Addr) (n c n' c' : Nat) (x y : Nat → Int) (w : World) (hn : n < 4294967296) (hn' : n' < 4294967296) (h : Num w a n c x) (h' : Num w a' n' c' y) (hv : val x n = val y n') :
    Calls Tryd.prog 22 #[.slice a n c, .slice a' n' c'] w fun e w' => e = .returned (.bool true) ∧ w = w' := by
  have hc := rcmp_any a a' n c n' c' x y w hn hn' h h'
  rw [hv, sgn_self] at hc
  clear h h' hv
  go_enter Tryd.func22, Tryd.ntmps22
  go_wp2_with (go_at_call 21; refine hc.mono ?_; rintro e w' ⟨rfl, rfl⟩)
  go_ret
  exact ⟨rfl, rfl⟩
end Go.Proofs.YthcndcanahhbcaaDoor

/-
  What nat's addInto, carryInto and Add do: contracts.
-/
set_option linter.unusedVariables false
set_option linter.unusedSimpArgs false
set_option maxRecDepth 20000
set_option linter.unusedSectionVars false
namespace Go.Proofs.YthcndcanahhbcaaDoor
open Go.RowKit

/-- the words of x, to those from off on y's lowest k added -/
def addZ (x y : Nat → Int) (off k j : Nat) : Int := if off ≤ j ∧ j < off + k then sumW (fun i => x (off + i)) y (j - off) else x j
theorem addZ_next (x y : Nat → Int) (off k j : Nat) : (if j = off + k then sumW (fun i => x (off + i)) y k else addZ x y off k j) = addZ x y off (k + 1) j := by
  unfold addZ
  by_cases e : j = off + k
  · subst e
    rw [if_pos rfl, if_pos (by omega)]; congr 1; omega
  · rw [if_neg e]
    by_cases e2 : off ≤ j ∧ j < off + k
    · rw [if_pos e2, if_pos (by omega)]
    · rw [if_neg e2, if_neg (by omega)]
theorem addZ_at (x y : Nat → Int) (off k : Nat) : addZ x y off k (off + k) = x (off + k) := by unfold addZ; rw [if_neg (by omega)]

theorem Num.cells {w : World} {a : Option Addr} {n c : Nat} {x : Nat → Int} (h : Num w a n c x) (hn : 0 < n) : ∃ b off, a = some ⟨b, off, none⟩ ∧ b < w.heap.size ∧ ∀ i, i < n → w.cell? ⟨b, off + i, none⟩ = some (.int .u64 (x i)) := by
  rcases h.2.2.2.2 with ⟨_, h'⟩ | ⟨b, off, h', hb, hc⟩
  · have := h.1; omega
  · exact ⟨b, off, h', hb, hc⟩

set_option maxHeartbeats 1000000 in
theorem addInto_any (g N off m c k c' : Nat) (a' : Option Addr) (x y : Nat → Int) (w : World) (hm : off + m ≤ N) (hN : N < 4294967296) (hk : k ≤ m) (hx : Words x) (h : Own g N x w) (h' : Num w a' k c' y) (hA : Apart a' g) :
    Calls Tryd.prog 94 #[.slice (some ⟨g, off, none⟩) m c, .slice a' k c'] w fun e w' => e = .returned (.int .u64 (carryW (fun i => x (off + i)) y k)) ∧ Own g N (addZ x y off k) w' ∧ Upd g w w' := by
  have hy := h'.2.2.1
  have hX : Words (fun i => x (off + i)) := fun i => hx (off + i)
  have HX : Hid (Words (fun i => x (off + i))) := hX
  go_enter Tryd.func94, Tryd.ntmps94
  go_wp2
  go_loopw [5, 6, 7, 10, 15] (fun cv u6 u7 i u15 wr => ∃ (j : Nat), j ≤ k ∧ i = .int .i64 j ∧ cv = .int .u64 (carryW (fun i => x (off + i)) y j) ∧ Own g N (addZ x y off j) wr ∧ Upd g w wr) (fun _ _ _ i _ _ => k - (intOf i).toNat)
  case atStart => exact ⟨0, Nat.zero_le _, rfl, rfl, h.congr fun i _ => by unfold addZ; rw [if_neg (by omega)], Upd.refl _ _⟩
  case round =>
    obtain ⟨j, hj, rfl, rfl, hO, hU⟩ := hrel
    have hcar := carryW_01 HX.out hy j
    by_cases hlt : j < k
    · have hji : (j : Int) < k := by omega
      have hjm : (j : Int) < m := by omega
      obtain ⟨b, off', rfl, hb, hc⟩ := (hU.num' hA h').cells (by omega)
      have hcj := hc j hlt
      have hco := hO.cell (off + j) (by omega)
      rw [addZ_at] at hco
      have hfo := hO.frozen (off + j)
      have bx := hx (off + j)
      have b_y := hy j
      have hadd := fun w => add64 (x (off + j)) (y j) (carryW (fun i => x (off + i)) y j) bx.1 b_y.1 hcar.1 hcar.2 w
      have HO : Hid (Own g N (addZ x y off (j + 1)) (wr.setCell ⟨g, off + j, none⟩ (.int .u64 (sumW (fun i => x (off + i)) y j)))) := (hO.set (off + j) _).congr fun i _ => addZ_next x y off j i
      have HU : Hid (Upd g w (wr.setCell ⟨g, off + j, none⟩ (.int .u64 (sumW (fun i => x (off + i)) y j)))) := hU.set (off + j) _
      clear hO hU hc h h' hA hx hy hX
      go_wp2
      go_roundw
      case rel => exact ⟨j + 1, by omega, by go_num, rfl, HO.out, HU.out⟩
      case measure => simp [intOf]; omega
    · obtain rfl : j = k := by omega
      have HO : Hid (Own g N (addZ x y off j) wr) := hO
      have HU : Hid (Upd g w wr) := hU
      clear hO hU h h' hA hx hy hX
      go_wp2
      go_ret
      exact ⟨rfl, HO.out, HU.out⟩

theorem carryW_stop {x y : Nat → Int} (hx : Words x) {k : Nat} (zy : ∀ i, k ≤ i → y i = 0) {i : Nat} (hi : k ≤ i) (h0 : carryW x y i = 0) : ∀ j, i ≤ j → carryW x y j = 0 ∧ sumW x y j = x j := by
  have h1 : ∀ j, i ≤ j → carryW x y j = 0 := by
    intro j hj
    induction j with
    | zero => obtain rfl : i = 0 := by omega
              exact h0
    | succ j ih =>
      by_cases e : i = j + 1
      · rw [← e]; exact h0
      · have hb := hx j
        simp only [carryW]; rw [ih (by omega), zy j (by omega)]; omega
  intro j hj
  refine ⟨h1 j hj, ?_⟩
  have hb := hx j
  unfold sumW
  rw [h1 j hj, zy j (by omega)]; omega

set_option maxHeartbeats 1000000 in
theorem carryInto_any (g N k c : Nat) (x y : Nat → Int) (w : World) (hk : k ≤ N) (hN : N < 4294967296) (hx : Words x) (hy : Words y) (zy : ∀ i, k ≤ i → y i = 0) (hend : carryW x y N = 0) (h : Own g N (addZ x y 0 k) w) :
    Calls Tryd.prog 93 #[.slice (some ⟨g, k, none⟩) (N - k) c, .int .u64 (carryW x y k)] w fun e w' => e = .returned (.tuple #[]) ∧ Own g N (sumW x y) w' ∧ Upd g w w' := by
  have e0 : (fun i => x (0 + i)) = x := by funext i; rw [Nat.zero_add]
  go_enter Tryd.func93, Tryd.ntmps93
  go_wp2
  go_loopw [1, 4, 9] (fun cv i u9 wr => ∃ (j : Nat), k + j ≤ N ∧ i = .int .i64 j ∧ cv = .int .u64 (carryW x y (k + j)) ∧ Own g N (addZ x y 0 (k + j)) wr ∧ Upd g w wr) (fun _ i _ _ => N - (intOf i).toNat)
  case atStart => exact ⟨0, by omega, rfl, rfl, h, Upd.refl _ _⟩
  case round =>
    obtain ⟨j, hj, rfl, rfl, hO, hU⟩ := hrel
    have hcar := carryW_01 hx hy (k + j)
    by_cases hc0 : carryW x y (k + j) = 0
    · have HO : Hid (Own g N (sumW x y) wr) := hO.congr fun i hi => by
        unfold addZ
        by_cases e : 0 ≤ i ∧ i < 0 + (k + j)
        · rw [if_pos e, e0]; rfl
        · rw [if_neg e]; exact ((carryW_stop hx zy (by omega) hc0 i (by omega)).2).symm
      have HU : Hid (Upd g w wr) := hU
      rw [hc0]
      clear hO hU h hend hcar e0
      go_wp2
      go_end0
      exact ⟨rfl, HO.out, HU.out⟩
    · have hlt : k + j < N := by
        rcases Nat.lt_or_ge (k + j) N with h' | h'
        · exact h'
        · obtain e : k + j = N := by omega
          rw [e] at hc0; exact absurd hend hc0
      have hpos : 0 < carryW x y (k + j) := by omega
      have hji : (j : Int) < ((N - k : Nat) : Int) := by omega
      have hco := hO.cell (k + j) hlt
      have e1 : addZ x y 0 (k + j) (k + j) = x (k + j) := by have := addZ_at x y 0 (k + j); simpa using this
      rw [e1] at hco
      have hfo := hO.frozen (k + j)
      have bx := hx (k + j)
      have hs : sumW x y (k + j) = (x (k + j) + carryW x y (k + j)) % 18446744073709551616 := by unfold sumW; rw [zy _ (by omega), Int.add_zero]
      have hcn : carryW x y (k + (j + 1)) = (x (k + j) + carryW x y (k + j)) / 18446744073709551616 := by
        show (x (k + j) + y (k + j) + carryW x y (k + j)) / 18446744073709551616 = _
        rw [zy _ (by omega), Int.add_zero]
      have hadd := fun w => add64 (x (k + j)) 0 (carryW x y (k + j)) bx.1 (by decide) hcar.1 hcar.2 w
      have HO : Hid (Own g N (addZ x y 0 (k + (j + 1))) (wr.setCell ⟨g, k + j, none⟩ (.int .u64 (sumW x y (k + j))))) := (hO.set (k + j) _).congr fun i _ => by
        have := addZ_next x y 0 (k + j) i
        rw [e0, Nat.zero_add] at this
        exact this
      have HU : Hid (Upd g w (wr.setCell ⟨g, k + j, none⟩ (.int .u64 (sumW x y (k + j))))) := hU.set (k + j) _
      have HC : Hid (carryW x y (k + (j + 1)) = (x (k + j) + carryW x y (k + j)) / 18446744073709551616) := hcn
      rw [hs] at HO HU
      clear hO hU h hend hx hy zy hc0 e1 hs hcn e0
      go_wp2
      go_roundw
      case rel => exact ⟨j + 1, by omega, by go_num, by rw [HC.out], HO.out, HU.out⟩
      case measure => simp [intOf]; omega

theorem sum_end {x y : Nat → Int} {s s' N : Nat} (hx : Words x) (hy : Words y) (zx : ∀ i, s ≤ i → x i = 0) (zy : ∀ i, s' ≤ i → y i = 0) (h : s < N) (h' : s' < N) : carryW x y N = 0 := by
  obtain ⟨q, rfl⟩ : ∃ q, N = q + 1 := ⟨N - 1, by omega⟩
  have := carryW_01 hx hy q
  simp only [carryW]; rw [zx q (by omega), zy q (by omega)]; omega
/-- what is left behind the work: the sum, trimmed -/
theorem sum_num {x y : Nat → Int} {g N s s' : Nat} {w : World} (hx : Words x) (hy : Words y) (zx : ∀ i, s ≤ i → x i = 0) (zy : ∀ i, s' ≤ i → y i = 0) (h : s < N) (h' : s' < N) (hN : N < 4294967296) (hO : Own g N (sumW x y) w) :
    Num w (some ⟨g, 0, none⟩) N N (segW (sumW x y) 0 N) ∧ val (segW (sumW x y) 0 N) N = val x s + val y s' := by
  refine ⟨hO.num (sumW_words x y) 0 N N (by omega) (Nat.le_refl _) (by unfold maxLen; omega), ?_⟩
  rw [val_congr (x := segW (sumW x y) 0 N) (y := sumW x y) N fun i hi => by rw [segW_lt _ 0 N i hi, Nat.zero_add]]
  have e := sum_val (x := x) (y := y) N
  rw [sum_end hx hy zx zy h h', val_more zx N (by omega), val_more zy N (by omega)] at e
  omega

set_option maxHeartbeats 1000000 in
theorem nadd_any (a a' : Option Addr) (n c n' c' : Nat) (x y : Nat → Int) (w : World) (hn : n < 4000000000) (hn' : n' < 4000000000) (h : Num w a n c x) (h' : Num w a' n' c' y) :
    Calls Tryd.prog 61 #[.slice a n c, .slice a' n' c'] w fun e w' => ∃ g k cap z, e = .returned (.slice (some ⟨g, 0, none⟩) k cap) ∧ k ≤ max (sizeL x n) (sizeL y n') + 1 ∧ Num w' (some ⟨g, 0, none⟩) k cap z ∧ val z k = val x n + val y n' ∧ sizeL z k = k ∧ Below w.heap.size w w' := by
  have hb := bare_any a n c x w (by omega) h
  have hb' := bare_any a' n' c' y w (by omega) h'
  rw [← val_bare n, ← val_bare n']
  have hx := h.2.2.1
  have hy := h'.2.2.1
  have hle := sizeL_le x n
  have hle' := sizeL_le y n'
  have hN := h.bare
  have hN' := h'.bare
  generalize sizeL x n = s at *
  generalize sizeL y n' = s' at *
  clear h h'
  by_cases hlt : s < s'
  · have hlt' : (s : Int) < s' := by omega
    obtain ⟨N, hNs⟩ : ∃ N, s' + 1 = N := ⟨_, rfl⟩
    have hNi : (s' : Int) + 1 = N := by omega
    have hmk := fun w => make_any ((s' : Int) + 1) N hNi (by omega) w
    have hcp := fun ty => copy_num (N := N) (C := N) ty hN' (by omega)
    have hO := Own.new w y N
    have hA : Apart a w.heap.size := by
      intro p hp
      rcases hN.2.2.2.2 with ⟨h, _⟩ | ⟨b, off, h, hb, _⟩
      · rw [h] at hp; cases hp
      · rw [h] at hp; cases hp; exact Nat.ne_of_lt hb
    have hnS := hN.next (below1 w (.cells (arrOf y N) 25))
    have hai := fun wr hO hn => addInto_any w.heap.size N 0 N N s c a y x wr (by omega) (by omega) (by omega) hy hO hn hA
    rw [show (fun i => y (0 + i)) = y by funext i; rw [Nat.zero_add]] at hai
    have hci := fun wr hO => carryInto_any w.heap.size N s (N - s) y x wr (by omega) (by omega) hy hx hN.2.2.2.1 (sum_end hy hx hN'.2.2.2.1 hN.2.2.2.1 (by omega) (by omega)) hO
    have HSN : Hid (∀ w2, Own w.heap.size N (sumW y x) w2 → Num w2 (some ⟨w.heap.size, 0, none⟩) N N (segW (sumW y x) 0 N) ∧ val (segW (sumW y x) 0 N) N = val y s' + val x s) := fun w2 h2 => sum_num hy hx hN'.2.2.2.1 hN.2.2.2.1 (by omega) (by omega) (by omega) h2
    have HBW : Hid (Below w.heap.size w (w.alloc (.cells (arrOf y N) 25))) := below1 w _
    have hsN : (s : Int) ≤ N := by omega
    clear hN hN' hNi hA hx hy
    go_enter Tryd.func61, Tryd.ntmps61
    go_wp2_with (first | (go_at_call_of 54 (Value.slice a n c); refine hb.mono ?_; rintro e w' ⟨rfl, rfl⟩) | (go_at_call_of 54 (Value.slice a' n' c'); refine hb'.mono ?_; rintro e w' ⟨rfl, rfl⟩))
    generalize w.alloc (.cells (arrOf y N) 25) = wA at *
    go_region_with (first | (go_at_call 94; refine (hai wA.drew hO hnS).mono ?_; rintro e w1 ⟨rfl, hO1, hU1⟩) | (go_at_call 93; refine (hci _ hO1).mono ?_; rintro e w2 ⟨rfl, hO2, hU2⟩))
    have hsn := HSN.out w2 hO2
    have hbr := bare_any (some ⟨w.heap.size, 0, none⟩) N N (segW (sumW y x) 0 N) w2 (by omega) hsn.1
    have HN2 : Hid (Num w2 (some ⟨w.heap.size, 0, none⟩) (sizeL (segW (sumW y x) 0 N) N) N (segW (sumW y x) 0 N)) := hsn.1.bare
    have HV2 : Hid (val (segW (sumW y x) 0 N) (sizeL (segW (sumW y x) 0 N) N) = val y s' + val x s) := by show _ = _; rw [val_bare, hsn.2]
    have HS2 : Hid (sizeL (segW (sumW y x) 0 N) (sizeL (segW (sumW y x) 0 N) N) = sizeL (segW (sumW y x) 0 N) N) := sizeL_sizeL _ _
    have HLE : Hid (sizeL (segW (sumW y x) 0 N) N ≤ N) := sizeL_le _ _
    generalize segW (sumW y x) 0 N = z at *
    generalize sizeL z N = k at *
    have HB2 : Hid (Below w.heap.size w w2) := (HBW.out.drew.trans (hU1.below (Nat.le_refl _))).trans (hU2.below (Nat.le_refl _))
    clear hsn hO1 hO2 hU1 hU2 hO hnS hai hci hb hb'
    go_wp2_with (go_at_call 54; refine hbr.mono ?_; rintro e w3 ⟨rfl, rfl⟩)
    go_ret
    exact ⟨_, k, N, z, rfl, by have := HLE.out; omega, HN2.out, by rw [HV2.out]; omega, HS2.out, HB2.out⟩
  · have hlt' : ¬ (s : Int) < s' := by omega
    obtain ⟨N, hNs⟩ : ∃ N, s + 1 = N := ⟨_, rfl⟩
    have hNi : (s : Int) + 1 = N := by omega
    have hmk := fun w => make_any ((s : Int) + 1) N hNi (by omega) w
    have hcp := fun ty => copy_num (N := N) (C := N) ty hN (by omega)
    have hO := Own.new w x N
    have hA : Apart a' w.heap.size := by
      intro p hp
      rcases hN'.2.2.2.2 with ⟨h, _⟩ | ⟨b, off, h, hb, _⟩
      · rw [h] at hp; cases hp
      · rw [h] at hp; cases hp; exact Nat.ne_of_lt hb
    have hnS := hN'.next (below1 w (.cells (arrOf x N) 25))
    have hai := fun wr hO hn => addInto_any w.heap.size N 0 N N s' c' a' x y wr (by omega) (by omega) (by omega) hx hO hn hA
    rw [show (fun i => x (0 + i)) = x by funext i; rw [Nat.zero_add]] at hai
    have hci := fun wr hO => carryInto_any w.heap.size N s' (N - s') x y wr (by omega) (by omega) hx hy hN'.2.2.2.1 (sum_end hx hy hN.2.2.2.1 hN'.2.2.2.1 (by omega) (by omega)) hO
    have HSN : Hid (∀ w2, Own w.heap.size N (sumW x y) w2 → Num w2 (some ⟨w.heap.size, 0, none⟩) N N (segW (sumW x y) 0 N) ∧ val (segW (sumW x y) 0 N) N = val x s + val y s') := fun w2 h2 => sum_num hx hy hN.2.2.2.1 hN'.2.2.2.1 (by omega) (by omega) (by omega) h2
    have HBW : Hid (Below w.heap.size w (w.alloc (.cells (arrOf x N) 25))) := below1 w _
    have hsN : (s' : Int) ≤ N := by omega
    clear hN hN' hNi hA hx hy
    go_enter Tryd.func61, Tryd.ntmps61
    go_wp2_with (first | (go_at_call_of 54 (Value.slice a n c); refine hb.mono ?_; rintro e w' ⟨rfl, rfl⟩) | (go_at_call_of 54 (Value.slice a' n' c'); refine hb'.mono ?_; rintro e w' ⟨rfl, rfl⟩))
    generalize w.alloc (.cells (arrOf x N) 25) = wA at *
    go_region_with (first | (go_at_call 94; refine (hai wA.drew hO hnS).mono ?_; rintro e w1 ⟨rfl, hO1, hU1⟩) | (go_at_call 93; refine (hci _ hO1).mono ?_; rintro e w2 ⟨rfl, hO2, hU2⟩))
    have hsn := HSN.out w2 hO2
    have hbr := bare_any (some ⟨w.heap.size, 0, none⟩) N N (segW (sumW x y) 0 N) w2 (by omega) hsn.1
    have HN2 : Hid (Num w2 (some ⟨w.heap.size, 0, none⟩) (sizeL (segW (sumW x y) 0 N) N) N (segW (sumW x y) 0 N)) := hsn.1.bare
    have HV2 : Hid (val (segW (sumW x y) 0 N) (sizeL (segW (sumW x y) 0 N) N) = val x s + val y s') := by show _ = _; rw [val_bare, hsn.2]
    have HS2 : Hid (sizeL (segW (sumW x y) 0 N) (sizeL (segW (sumW x y) 0 N) N) = sizeL (segW (sumW x y) 0 N) N) := sizeL_sizeL _ _
    have HLE : Hid (sizeL (segW (sumW x y) 0 N) N ≤ N) := sizeL_le _ _
    generalize segW (sumW x y) 0 N = z at *
    generalize sizeL z N = k at *
    have HB2 : Hid (Below w.heap.size w w2) := (HBW.out.drew.trans (hU1.below (Nat.le_refl _))).trans (hU2.below (Nat.le_refl _))
    clear hsn hO1 hO2 hU1 hU2 hO hnS hai hci hb hb'
    go_wp2_with (go_at_call 54; refine hbr.mono ?_; rintro e w3 ⟨rfl, rfl⟩)
    go_ret
    exact ⟨_, k, N, z, rfl, by have := HLE.out; omega, HN2.out, by rw [HV2.out], HS2.out, HB2.out⟩
end Go.Proofs.YthcndcanahhbcaaDoor

/-
  What nat's Sub does: a contract.
-/
set_option linter.unusedVariables false
set_option linter.unusedSimpArgs false
set_option maxRecDepth 20000
set_option linter.unusedSectionVars false
namespace Go.Proofs.YthcndcanahhbcaaDoor
open Go.RowKit

/-- the words of x, y's lowest k taken from them -/
def subZ (x y : Nat → Int) (k j : Nat) : Int := if j < k then difW x y j else x j
theorem subZ_next (x y : Nat → Int) (k j : Nat) : (if j = k then difW x y k else subZ x y k j) = subZ x y (k + 1) j := by
  unfold subZ
  by_cases e : j = k
  · subst e
    rw [if_pos rfl, if_pos (by omega)]
  · rw [if_neg e]
    by_cases e2 : j < k
    · rw [if_pos e2, if_pos (by omega)]
    · rw [if_neg e2, if_neg (by omega)]
theorem subZ_at (x y : Nat → Int) (k : Nat) : subZ x y k k = x k := by unfold subZ; rw [if_neg (by omega)]
theorem bor_val {x y b : Int} (hx : 0 ≤ x ∧ x ≤ 18446744073709551615) (hy : 0 ≤ y ∧ y ≤ 18446744073709551615) (hb : 0 ≤ b ∧ b ≤ 1) : (x - y - b) % 18446744073709551616 - bor x y b * 18446744073709551616 = x - y - b := by
  unfold bor; split <;> omega
theorem dif_val {x y : Nat → Int} (hx : Words x) (hy : Words y) : ∀ n, val (difW x y) n - borW x y n * 18446744073709551616 ^ n = val x n - val y n
  | 0 => by simp [val, borW]
  | n + 1 => by
    have ih := dif_val hx hy n
    have h := bor_val (hx n) (hy n) (borW_01 x y n)
    show val (difW x y) n + difW x y n * 18446744073709551616 ^ n - bor (x n) (y n) (borW x y n) * 18446744073709551616 ^ (n + 1) = val x n + x n * 18446744073709551616 ^ n - (val y n + y n * 18446744073709551616 ^ n)
    have hd : difW x y n = (x n - y n - borW x y n) % 18446744073709551616 := rfl
    rw [← hd] at h
    rw [Int.pow_succ]
    generalize (18446744073709551616 : Int) ^ n = P at *
    grind
theorem borW_stop {x y : Nat → Int} (hx : Words x) {k : Nat} (zy : ∀ i, k ≤ i → y i = 0) {i : Nat} (hi : k ≤ i) (h0 : borW x y i = 0) : ∀ j, i ≤ j → borW x y j = 0 ∧ difW x y j = x j := by
  have h1 : ∀ j, i ≤ j → borW x y j = 0 := by
    intro j hj
    induction j with
    | zero => obtain rfl : i = 0 := by omega
              exact h0
    | succ j ih =>
      by_cases e : i = j + 1
      · rw [← e]; exact h0
      · have hb := hx j
        show bor (x j) (y j) (borW x y j) = 0
        rw [ih (by omega), zy j (by omega)]; unfold bor; rw [if_neg (by omega)]
  intro j hj
  refine ⟨h1 j hj, ?_⟩
  have hb := hx j
  unfold difW
  rw [h1 j hj, zy j (by omega)]; omega
/-- no borrow is left over where y is no greater -/
theorem borW_end {x y : Nat → Int} (hx : Words x) (hy : Words y) {n : Nat} (h : val y n ≤ val x n) : borW x y n = 0 := by
  have e := dif_val hx hy n
  have h1 := val_bd (difW_words x y) n
  have h2 := borW_01 x y n
  have h3 := pw_pos n
  by_cases h0 : borW x y n = 0
  · exact h0
  · have : borW x y n = 1 := by omega
    rw [this] at e; omega

end Go.Proofs.YthcndcanahhbcaaDoor

/-
  What nat's Len, and the document's Len, Add and Sub do, by value: contracts.
-/
set_option linter.unusedVariables false
set_option linter.unusedSimpArgs false
set_option maxRecDepth 20000
set_option linter.unusedSectionVars false
namespace Go.Proofs.YthcndcanahhbcaaDoor
open Go.RowKit

set_option maxHeartbeats 400000 in
theorem nlen_any (a : Option Addr) (n c : Nat) (x : Nat → Int) (w : World) (hn : n < 100000000) (h : Num w a n c x) :
    Calls Tryd.prog 26 #[.slice a n c] w fun e w' => e = .returned (.int .i64 (lenL x n)) ∧ w = w' := by
  have hb := bare_any a n c x w (by omega) h
  have hle := sizeL_le x n
  by_cases h0 : sizeL x n = 0
  · have HL : Hid (lenL x n = 0) := by show _ = _; simp [lenL, h0]
    rw [h0] at hb
    clear h0 h
    go_enter Tryd.func26, Tryd.ntmps26
    go_wp2_with (go_at_call 54; refine hb.mono ?_; rintro e w' ⟨rfl, rfl⟩)
    go_ret
    exact ⟨ret_int HL.out.symm, rfl⟩
  · obtain ⟨j, hj⟩ : ∃ j, sizeL x n = j + 1 := ⟨sizeL x n - 1, by omega⟩
    have HL : Hid (lenL x n = 64 * (j : Int) + Lib.bitLen (x j).toNat) := by show _ = _; simp [lenL, hj]; omega
    obtain ⟨b, off, rfl, hbs, hc⟩ := h.cells (by omega)
    rw [hj] at hb
    have hcj := hc j (by omega)
    have hbx := h.2.2.1 j
    have hbl := bitLen64 (x j).toNat
    have hj' : j + 1 ≤ n := by omega
    clear h0 hc hj hle h
    have hcl := Tryd.bits_Len64 (x j) w hbx.1 hbx.2
    generalize Lib.bitLen (x j).toNat = L at *
    go_enter Tryd.func26, Tryd.ntmps26
    go_wp2_with (first | (go_at_call 54; refine hb.mono ?_; rintro e w' ⟨rfl, rfl⟩) | (go_at_call 55; refine hcl.mono ?_; rintro e w' ⟨rfl, rfl⟩))
    go_ret
    exact ⟨ret_int (by rw [HL.out]; omega), rfl⟩
set_option maxHeartbeats 400000 in
theorem rlen_nil (w : World) : Calls Tryd.prog 70 #[.slice none 0 0] w fun e w' => e = .returned (.int .i64 0) ∧ w = w' := by
  have hs := size_nil w
  go_enter Tryd.func70, Tryd.ntmps70
  go_wp2_with (go_at_call 19; refine hs.mono ?_; rintro e w' ⟨rfl, rfl⟩)
  go_ret
  exact ⟨rfl, rfl⟩
theorem rlen_num (a : Option Addr) (n c : Nat) (x : Nat → Int) (w : World) (hn : n < 100000000) (h : Num w a n c x) :
    Calls Tryd.prog 70 #[.slice a n c] w fun e w' => e = .returned (.int .i64 (lenL x n)) ∧ w = w' := by
  have h' := h
  obtain ⟨h1, h2, h3, h4, h5⟩ := h'
  rcases h5 with ⟨rfl, rfl⟩ | ⟨b, off, rfl, hb, hc⟩
  · obtain rfl : n = 0 := by omega
    exact rlen_nil w
  · exact (len_any b off n c x w hn h3 hc).mono fun e w' hw => ⟨hw.1, hw.2.symm⟩
theorem radd_val (a a' : Option Addr) (n c n' c' : Nat) (x y : Nat → Int) (w : World) (hn : n < 4000000000) (hn' : n' < 4000000000) (h : Num w a n c x) (h' : Num w a' n' c' y) :
    Calls Tryd.prog 24 #[.slice a n c, .slice a' n' c'] w fun e w' => ∃ g k cap z, e = .returned (.slice (some ⟨g, 0, none⟩) k cap) ∧ k ≤ max n n' + 1 ∧ Num w' (some ⟨g, 0, none⟩) k cap z ∧ val z k = val x n + val y n' ∧ Below w.heap.size w w' := by
  refine (radd_any a a' n c n' c' x y w (by omega) (by omega) h h').mono fun e w' ⟨g, k, cap, e1, hk, hN, hB⟩ => ⟨g, k, cap, _, e1, hk, hN, ?_, hB⟩
  have e := sum_val (x := x) (y := y) (max n n' + 1)
  rw [sum_end h.2.2.1 h'.2.2.1 h.2.2.2.1 h'.2.2.2.1 (by omega) (by omega), val_more h.2.2.2.1 _ (by omega), val_more h'.2.2.2.1 _ (by omega), val_more hN.2.2.2.1 _ hk] at e
  omega
theorem rless_val (a a' : Option Addr) (n c n' c' : Nat) (x y : Nat → Int) (w : World) (hn : n < 4000000000) (hn' : n' < 4000000000) (h : Num w a n c x) (h' : Num w a' n' c' y) (hv : val y n' ≤ val x n) :
    Calls Tryd.prog 20 #[.slice a n c, .slice a' n' c'] w fun e w' => ∃ g k cap z, e = .returned (.slice (some ⟨g, 0, none⟩) k cap) ∧ k ≤ max n n' ∧ Num w' (some ⟨g, 0, none⟩) k cap z ∧ val z k = val x n - val y n' ∧ Below w.heap.size w w' := by
  refine (rless_any a a' n c n' c' x y w (by omega) (by omega) h h').mono fun e w' ⟨g, k, cap, e1, hk, hN, hB⟩ => ⟨g, k, cap, _, e1, hk, hN, ?_, hB⟩
  have ex := val_more h.2.2.2.1 (max n n') (by omega)
  have ey := val_more h'.2.2.2.1 (max n n') (by omega)
  have e := dif_val h.2.2.1 h'.2.2.1 (max n n')
  rw [borW_end h.2.2.1 h'.2.2.1 (by omega), ex, ey] at e
  rw [← val_more hN.2.2.2.1 _ hk, val_congr (y := difW x y) (max n n') fun i hi => by unfold difZ; rw [if_pos hi]]
  omega
end Go.Proofs.YthcndcanahhbcaaDoor

/-
  What the law NatAdds does: it returns true.
-/
set_option linter.unusedVariables false
set_option linter.unusedSimpArgs false
set_option maxRecDepth 20000
set_option linter.unusedSectionVars false
namespace Go.Proofs.YthcndcanahhbcaaDoor
open Go.RowKit

theorem ncmp_b (a a' : Option Addr) (n c n' c' : Nat) (x y : Nat → Int) (w : World) (hn : n < 4294967296) (hn' : n' < 4294967296) (h : Num w a n c x) (h' : Num w a' n' c' y) :
    Calls Tryd.prog 58 #[.slice a n c, .slice a' n' c'] w fun e w' => e = .returned (.int .i64 (sgn (val x n) (val y n'))) ∧ Below w.heap.size w w' :=
  (ncmp_any a a' n c n' c' x y w hn hn' h h').mono fun e w' ⟨h1, m, hm⟩ => ⟨h1, hm ▸ below_drewN (Below.refl _ _) m⟩
def subE (V W : Int) : Int := if V < W then 3 else 0
def subV (V W : Int) : Int := if V < W then 0 else V - W
theorem num_none (w : World) : Num w none 0 0 (fun _ => 0) := ⟨Nat.le_refl _, by unfold maxLen; omega, fun _ => (by decide : (0 : Int) ≤ 0 ∧ (0 : Int) ≤ 18446744073709551615), fun _ _ => rfl, Or.inl ⟨rfl, rfl⟩⟩
end Go.Proofs.YthcndcanahhbcaaDoor

/-
  What nat's mulAdd, addProduct and Mul do: contracts.
-/
set_option linter.unusedVariables false
set_option linter.unusedSimpArgs false
set_option maxRecDepth 20000
set_option linter.unusedSectionVars false
namespace Go.Proofs.YthcndcanahhbcaaDoor
open Go.RowKit

theorem low_high {l h t : Int} (e : l + h * 18446744073709551616 = t) (h0 : 0 ≤ l) (h1 : l ≤ 18446744073709551615) : t % 18446744073709551616 = l ∧ t / 18446744073709551616 = h := by omega

set_option maxHeartbeats 1000000 in
theorem mulAdd_any (a n z C : Int) (w : World) (ha : 0 ≤ a ∧ a ≤ 18446744073709551615) (hn : 0 ≤ n ∧ n ≤ 18446744073709551615) (hz : 0 ≤ z ∧ z ≤ 18446744073709551615) (hC : 0 ≤ C ∧ C ≤ 18446744073709551615) :
    Calls Tryd.prog 111 #[.int .u64 a, .int .u64 n, .int .u64 z, .int .u64 C] w fun e w' => ∃ l h, e = .returned (.tuple #[.int .u64 l, .int .u64 h]) ∧ l + h * 18446744073709551616 = a * n + z + C ∧ (0 ≤ l ∧ l ≤ 18446744073709551615) ∧ (0 ≤ h ∧ h ≤ 18446744073709551615) ∧ w = w' := by
  have hms := mul_step a n z C ha hn hz hC
  have hmul := mul64 a n ha hn w
  have hL0 : 0 ≤ a * n % 18446744073709551616 := Int.emod_nonneg _ (by decide)
  have hA1 := fun w => add64z (a * n % 18446744073709551616) z hL0 hz.1 w
  have hs0 : 0 ≤ (a * n % 18446744073709551616 + z) % 18446744073709551616 := Int.emod_nonneg _ (by decide)
  have hA2 := fun w => add64z ((a * n % 18446744073709551616 + z) % 18446744073709551616) C hs0 hC.1 w
  have ht0 : 0 ≤ ((a * n % 18446744073709551616 + z) % 18446744073709551616 + C) % 18446744073709551616 ∧ ((a * n % 18446744073709551616 + z) % 18446744073709551616 + C) % 18446744073709551616 ≤ 18446744073709551615 := by omega
  generalize ((a * n % 18446744073709551616 + z) % 18446744073709551616 + C) % 18446744073709551616 = t2 at *
  generalize ((a * n % 18446744073709551616 + z) % 18446744073709551616 + C) / 18446744073709551616 = f2 at *
  generalize (a * n % 18446744073709551616 + z) % 18446744073709551616 = t1 at *
  generalize (a * n % 18446744073709551616 + z) / 18446744073709551616 = f1 at *
  generalize a * n % 18446744073709551616 = lo at *
  generalize a * n / 18446744073709551616 = hi at *
  have HMS : Hid (t2 + (hi + f1 + f2) * 18446744073709551616 = a * n + z + C) := hms.1
  have hb1 : 0 ≤ hi + f1 := hms.2.1
  have hb2 : hi + f1 ≤ 18446744073709551615 := hms.2.2.1
  have hb3 : 0 ≤ hi + f1 + f2 := hms.2.2.2.1
  have hb4 : hi + f1 + f2 ≤ 18446744073709551615 := hms.2.2.2.2
  clear hms
  go_enter Tryd.func111, Tryd.ntmps111
  go_wp2_with (go_at_call 42; refine hmul.mono ?_; rintro e w' ⟨rfl, rfl⟩)
  go_ret2
  exact ⟨t2, hi + f1 + f2, rfl, HMS.out, ht0, ⟨hb3, hb4⟩, rfl⟩

set_option maxHeartbeats 1000000 in
theorem apart_of {w : World} {a : Option Addr} {n c : Nat} {x : Nat → Int} (h : Num w a n c x) : Apart a w.heap.size := by
  intro p hp
  rcases h.2.2.2.2 with ⟨h, _⟩ | ⟨b, off, h, hb, _⟩
  · rw [h] at hp; cases hp
  · rw [h] at hp; cases hp; exact Nat.ne_of_lt hb
theorem val_zero : ∀ m, val (fun _ => 0) m = 0 := by intro m; induction m with | zero => rfl | succ m ih => simp only [val]; rw [ih]; simp

set_option maxHeartbeats 2000000 in
set_option maxHeartbeats 400000 in
def mulE (s s' : Nat) : Int := if 2000 < s + s' then 4 else 0
def mulV (s s' : Nat) (V W : Int) : Int := if 2000 < s + s' then 0 else V * W
end Go.Proofs.YthcndcanahhbcaaDoor

/-
  What the document's Mul does, and the law NatMuls: it returns true.
-/
set_option linter.unusedVariables false
set_option linter.unusedSimpArgs false
set_option maxRecDepth 20000
set_option linter.unusedSectionVars false
namespace Go.Proofs.YthcndcanahhbcaaDoor
open Go.RowKit

theorem times_val (b off n c b' off' n' c' : Nat) (x y : Nat → Int) (w : World) (hn : n < 1000000) (hn' : n' < 1000000) (h : Num w (some ⟨b, off, none⟩) n c x) (h' : Num w (some ⟨b', off', none⟩) n' c' y) :
    Calls Tryd.prog 17 #[.slice (some ⟨b, off, none⟩) n c, .slice (some ⟨b', off', none⟩) n' c'] w fun e w' => ∃ g k cap z, e = .returned (.slice (some ⟨g, 0, none⟩) k cap) ∧ k ≤ n + n' + 1 ∧ Num w' (some ⟨g, 0, none⟩) k cap z ∧ val z k = val x n * val y n' ∧ Below w.heap.size w w' :=
  (times_raw b off n c b' off' n' c' x y w hn hn' h h').mono fun e w' ⟨g, k, cap, z, e1, hk, hN, hv, hB⟩ => ⟨g, k, cap, z, e1, hk, hN, by rw [← hv, val_more hN.2.2.2.1 _ hk], hB⟩

end Go.Proofs.YthcndcanahhbcaaDoor

/-
  Shifting to the left, by value: arithmetic.
-/
set_option linter.unusedVariables false
set_option linter.unusedSimpArgs false
set_option maxRecDepth 20000
set_option linter.unusedSectionVars false
namespace Go.Proofs.YthcndcanahhbcaaDoor
open Go.RowKit

theorem wrap_mod (a : Int) : IntKind.u64.wrap a = a % 18446744073709551616 := by
  simp only [IntKind.wrap, IntKind.bits, IntKind.signed]
  simp
theorem p2_pos (n : Nat) : (0 : Int) < 2 ^ n := Int.pow_pos (by decide)
theorem p2_split {r : Nat} (hr : r ≤ 64) : (2 : Int) ^ (64 - r) * 2 ^ r = 18446744073709551616 := by
  rw [← Int.pow_add, show 64 - r + r = 64 by omega]; rfl
/-- what goes beyond a word that is shifted by r -/
def hiW (x : Int) (r : Nat) : Int := x * 2 ^ r / 18446744073709551616
theorem hiW_eq (x : Int) {r : Nat} (hr : r ≤ 64) : x / 2 ^ (64 - r) = hiW x r := by
  unfold hiW
  rw [← p2_split hr, Int.mul_ediv_mul_of_pos_left _ _ (p2_pos r)]
theorem hiW_bd {x : Int} (hx : 0 ≤ x ∧ x ≤ 18446744073709551615) (r : Nat) : 0 ≤ hiW x r ∧ hiW x r < 2 ^ r := by
  have hp := p2_pos r
  unfold hiW
  refine ⟨Int.ediv_nonneg (Int.mul_nonneg hx.1 (by omega)) (by decide), Int.ediv_lt_of_lt_mul (by decide) ?_⟩
  rw [Int.mul_comm (2 ^ r)]
  exact Int.mul_lt_mul_of_pos_right (by omega) hp
theorem p2_le {r : Nat} (hr : r < 64) : (2 : Int) ^ r ≤ 9223372036854775808 := by
  have h := p2_split (show r ≤ 64 by omega)
  have h1 : (2 : Int) ^ (64 - r) = 2 ^ (63 - r) * 2 := by rw [← Int.pow_succ]; congr 1; omega
  have h2 := p2_pos (63 - r)
  rw [h1] at h
  have : (1 : Int) * (2 * 2 ^ r) ≤ 2 ^ (63 - r) * (2 * 2 ^ r) := Int.mul_le_mul_of_nonneg_right (by omega) (by have := p2_pos r; omega)
  rw [← Int.mul_assoc] at this
  have e : (2 : Int) ^ (63 - r) * (2 * 2 ^ r) = 18446744073709551616 := by rw [← Int.mul_assoc]; exact h
  omega
/-- the two parts of a shifted word have no bit in common -/
theorem or_shl {y b : Int} {r : Nat} (hr : r < 64) (hy : 0 ≤ y) (hb : 0 ≤ b ∧ b < 2 ^ r) : orW b (IntKind.u64.wrap (y * 2 ^ r)) = y * 2 ^ r % 18446744073709551616 + b := by
  have hle := p2_le hr
  have hp := p2_pos r
  have hme : y * 2 ^ r % (2 ^ (64 - r) * 2 ^ r) = y % 2 ^ (64 - r) * 2 ^ r := by
    have := Int.mul_emod_mul_of_pos y (2 ^ (64 - r)) hp
    rw [Int.mul_comm y, Int.mul_comm (2 ^ (64 - r)), this, Int.mul_comm]
  rw [orW_eq b _ (by omega) (wrap_word _), wrap_mod, ← p2_split (show r ≤ 64 by omega), hme]
  have hm0 := Int.emod_nonneg y (show (2 : Int) ^ (64 - r) ≠ 0 by have := p2_pos (64 - r); omega)
  obtain ⟨u, hu⟩ := Int.eq_ofNat_of_zero_le hm0
  obtain ⟨b', rfl⟩ := Int.eq_ofNat_of_zero_le hb.1
  rw [hu]
  have e1 : ((u : Int) * 2 ^ r).toNat = 2 ^ r * u := by
    have : ((u : Int) * 2 ^ r) = ((2 ^ r * u : Nat) : Int) := by rw [Int.natCast_mul, powCast, Int.mul_comm]
    rw [this]; exact Int.toNat_natCast _
  have hb2 : b' < 2 ^ r := by
    have h := hb.2
    rw [← powCast] at h; omega
  rw [e1, Int.toNat_natCast, Nat.or_comm, ← Nat.two_pow_add_eq_or_of_lt hb2]
  rw [Int.natCast_add, Int.natCast_mul, powCast, Int.mul_comm]
/-- what comes in from the word below -/
def prevW (x : Nat → Int) (r i : Nat) : Int := if i = 0 then 0 else hiW (x (i - 1)) r
/-- the words of x times 2^r -/
def shW (x : Nat → Int) (r i : Nat) : Int := x i * 2 ^ r % 18446744073709551616 + prevW x r i
theorem prevW_bd {x : Nat → Int} (hx : Words x) (r i : Nat) : 0 ≤ prevW x r i ∧ prevW x r i < 2 ^ r := by
  unfold prevW; split
  · have := p2_pos r; omega
  · exact hiW_bd (hx _) r
theorem shW_or {x : Nat → Int} (hx : Words x) {r : Nat} (hr : r < 64) (i : Nat) : orW (prevW x r i) (IntKind.u64.wrap (x i * 2 ^ r)) = shW x r i := or_shl hr (hx i).1 (prevW_bd hx r i)
theorem prevW_word {x : Nat → Int} (hx : Words x) {r : Nat} (hr : r < 64) (i : Nat) : 0 ≤ prevW x r i ∧ prevW x r i ≤ 18446744073709551615 := by
  have := prevW_bd hx r i
  have := p2_le hr
  omega
theorem shW_words {x : Nat → Int} (hx : Words x) {r : Nat} (hr : r < 64) : Words (shW x r) := fun i => by
  rw [← shW_or hx hr i]; exact orW_word _ _ (prevW_word hx hr i) (wrap_word _)
theorem sh_val (x : Nat → Int) (r : Nat) : ∀ m, val (shW x r) m + prevW x r m * 18446744073709551616 ^ m = val x m * 2 ^ r
  | 0 => by simp [val, prevW]
  | m + 1 => by
    have ih := sh_val x r m
    show val (shW x r) m + shW x r m * 18446744073709551616 ^ m + prevW x r (m + 1) * 18446744073709551616 ^ (m + 1) = (val x m + x m * 18446744073709551616 ^ m) * 2 ^ r
    have e1 : prevW x r (m + 1) = x m * 2 ^ r / 18446744073709551616 := rfl
    have e2 : shW x r m = x m * 2 ^ r % 18446744073709551616 + prevW x r m := rfl
    have e3 := Int.emod_add_mul_ediv (x m * 2 ^ r) 18446744073709551616
    rw [e1, e2, Int.pow_succ]
    generalize x m * 2 ^ r / 18446744073709551616 = K at *
    generalize x m * 2 ^ r % 18446744073709551616 = R at *
    generalize (18446744073709551616 : Int) ^ m = P at *
    grind
theorem sh_end {x : Nat → Int} {n : Nat} (zx : ∀ i, n ≤ i → x i = 0) (r m : Nat) (h : n < m) : val (shW x r) m = val x n * 2 ^ r := by
  have e := sh_val x r m
  have e1 : prevW x r m = 0 := by
    unfold prevW hiW; rw [if_neg (by omega), zx (m - 1) (by omega)]; simp
  rw [e1, val_more zx m (by omega)] at e
  omega
/-- words that are moved up by q -/
def upW (f : Nat → Int) (q j : Nat) : Int := if q ≤ j then f (j - q) else 0
theorem val_up (f : Nat → Int) (q : Nat) : ∀ m, val (upW f q) (q + m) = val f m * 18446744073709551616 ^ q
  | 0 => by
    have : ∀ k, k ≤ q → val (upW f q) k = 0 := by
      intro k
      induction k with
      | zero => intro _; rfl
      | succ k ih =>
        intro hk
        show val (upW f q) k + upW f q k * 18446744073709551616 ^ k = 0
        rw [ih (by omega)]
        unfold upW; rw [if_neg (by omega)]; simp
    rw [Nat.add_zero, this q (Nat.le_refl _)]; simp [val]
  | m + 1 => by
    have ih := val_up f q m
    show val (upW f q) (q + m) + upW f q (q + m) * 18446744073709551616 ^ (q + m) = (val f m + f m * 18446744073709551616 ^ m) * 18446744073709551616 ^ q
    rw [ih]
    have e : upW f q (q + m) = f m := by unfold upW; rw [if_pos (by omega)]; congr 1; omega
    rw [e, Int.pow_add]
    generalize (18446744073709551616 : Int) ^ m = P
    generalize (18446744073709551616 : Int) ^ q = Q
    grind
theorem finL_up {x : Nat → Int} (hx : Words x) (q : Nat) {r : Nat} (hr : r < 64) : finL x q r = upW (shW x r) q := by
  funext j
  unfold finL upW
  by_cases h : q ≤ j
  · rw [if_pos h, if_pos h, ← shW_or hx hr (j - q)]
    congr 1
    unfold lowp prevW
    by_cases h0 : j - q = 0
    · rw [if_pos h0, if_neg (by omega)]
    · rw [if_neg h0]
      by_cases hr0 : 0 < r
      · rw [if_pos (by omega), hiW_eq _ (by omega)]
      · obtain rfl : r = 0 := by omega
        rw [if_neg (by omega)]
        unfold hiW
        have := hx (j - q - 1)
        omega
  · rw [if_neg h, if_neg h]
theorem p64 (q r : Nat) : (2 : Int) ^ r * 18446744073709551616 ^ q = 2 ^ (64 * q + r) := by
  rw [Int.pow_add, Int.pow_mul, Int.mul_comm]; rfl
/-- the value of what the document's Left lays -/
theorem finL_val {x : Nat → Int} {n : Nat} (hx : Words x) (zx : ∀ i, n ≤ i → x i = 0) (q : Nat) {r : Nat} (hr : r < 64) : val (finL x q r) (n + q + 1) = val x n * 2 ^ (64 * q + r) := by
  rw [finL_up hx q hr, show n + q + 1 = q + (n + 1) by omega, val_up, sh_end zx r (n + 1) (by omega), Int.mul_assoc, p64]
end Go.Proofs.YthcndcanahhbcaaDoor

/-
  What nat's shiftUp and Shl do: contracts.
-/
set_option linter.unusedVariables false
set_option linter.unusedSimpArgs false
set_option maxRecDepth 20000
set_option linter.unusedSectionVars false
namespace Go.Proofs.YthcndcanahhbcaaDoor
open Go.RowKit

/-- the words of z, from off on k of y's that are shifted by r laid over them -/
def upZ (z y : Nat → Int) (r off k j : Nat) : Int := if off ≤ j ∧ j < off + k then shW y r (j - off) else z j
theorem upZ_next (z y : Nat → Int) (r off k j : Nat) : (if j = off + k then shW y r k else upZ z y r off k j) = upZ z y r off (k + 1) j := by
  unfold upZ
  by_cases e : j = off + k
  · subst e
    rw [if_pos rfl, if_pos (by omega)]; congr 1; omega
  · rw [if_neg e]
    by_cases e2 : off ≤ j ∧ j < off + k
    · rw [if_pos e2, if_pos (by omega)]
    · rw [if_neg e2, if_neg (by omega)]

set_option maxHeartbeats 1000000 in
theorem shiftUp_any (g N off m c k c' r : Nat) (a' : Option Addr) (z y : Nat → Int) (w : World) (hm : off + m ≤ N) (hN : N < 4294967296) (hk : k < m) (hr : r < 64) (h : Own g N z w) (h' : Num w a' k c' y) (hA : Apart a' g) :
    Calls Tryd.prog 101 #[.slice (some ⟨g, off, none⟩) m c, .slice a' k c', .int .i64 r] w fun e w' => e = .returned (.tuple #[]) ∧ Own g N (upZ z y r off (k + 1)) w' ∧ Upd g w w' := by
  have hy := h'.2.2.1
  have hri : (r : Int) < 64 := by omega
  have e64 : ((64 : Int) - r).toNat = 64 - r := by omega
  have hk0 := h'.2.2.2.1 k (Nat.le_refl _)
  go_enter Tryd.func101, Tryd.ntmps101
  go_wp2
  go_loopw [6, 7, 8, 11] (fun cv u7 u8 i wr => ∃ (j : Nat), j ≤ k ∧ i = .int .i64 j ∧ cv = .int .u64 (prevW y r j) ∧ Own g N (upZ z y r off j) wr ∧ Upd g w wr) (fun _ _ _ i _ => k - (intOf i).toNat)
  case atStart => exact ⟨0, Nat.zero_le _, rfl, rfl, h.congr fun i _ => by unfold upZ; rw [if_neg (by omega)], Upd.refl _ _⟩
  case round =>
    obtain ⟨j, hj, rfl, rfl, hO, hU⟩ := hrel
    have hpb := prevW_word hy hr j
    by_cases hlt : j < k
    · have hji : (j : Int) < k := by omega
      have hjm : (j : Int) < m := by omega
      obtain ⟨b, off', rfl, hb, hc⟩ := (hU.num' hA h').cells (by omega)
      have hcj := hc j hlt
      have hco : ∃ u, wr.cell? ⟨g, off + j, none⟩ = some (.int .u64 u) := ⟨_, hO.cell (off + j) (by omega)⟩
      obtain ⟨u, hco⟩ := hco
      have hfo := hO.frozen (off + j)
      have b_y := hy j
      have HP : Hid (prevW y r (j + 1) = y j / 2 ^ (64 - r)) := by show _ = _; rw [hiW_eq _ (by omega)]; rfl
      have HS : Hid (bits BinOp.or IntKind.u64 (IntKind.u64.wrap (y j * 2 ^ r)) (prevW y r j) = shW y r j) := by
        show _ = _
        rw [← shW_or hy hr j]
        exact orW_comm _ _ (wrap_word _) hpb
      have HO : Hid (Own g N (upZ z y r off (j + 1)) (wr.setCell ⟨g, off + j, none⟩ (.int .u64 (shW y r j)))) := (hO.set (off + j) _).congr fun i _ => upZ_next z y r off j i
      have HU : Hid (Upd g w (wr.setCell ⟨g, off + j, none⟩ (.int .u64 (shW y r j)))) := hU.set (off + j) _
      rw [← HS.out] at HO HU
      clear hO hU hc h h' hA hy hk0 HS
      generalize prevW y r j = pv at *
      go_wp2
      go_roundw
      case rel => exact ⟨j + 1, by omega, by go_num, by rw [HP.out], HO.out, HU.out⟩
      case measure => simp [intOf]; omega
    · obtain rfl : j = k := by omega
      have hjm : (j : Int) < m := by omega
      have hco : ∃ u, wr.cell? ⟨g, off + j, none⟩ = some (.int .u64 u) := ⟨_, hO.cell (off + j) (by omega)⟩
      obtain ⟨u, hco⟩ := hco
      have hfo := hO.frozen (off + j)
      have e1 : shW y r j = prevW y r j := by unfold shW; rw [hk0]; simp
      have HO : Hid (Own g N (upZ z y r off (j + 1)) (wr.setCell ⟨g, off + j, none⟩ (.int .u64 (prevW y r j)))) := (hO.set (off + j) _).congr fun i _ => by rw [← e1]; exact upZ_next z y r off j i
      have HU : Hid (Upd g w (wr.setCell ⟨g, off + j, none⟩ (.int .u64 (prevW y r j)))) := hU.set (off + j) _
      clear hO hU h h' hA hy hk0 e1
      generalize prevW y r j = pv at *
      go_wp2
      go_end0
      exact ⟨rfl, HO.out, HU.out⟩

theorem bare_own {g N c : Nat} {z : Nat → Int} {w : World} {V : Int} (hO : Own g N z w) (hW : Words z) (hN : N < 4000000000) (hc : N ≤ c) (hc2 : c ≤ maxLen) (hv : val z N = V) :
    ∃ k z', k ≤ N ∧ Num w (some ⟨g, 0, none⟩) k c z' ∧ val z' k = V ∧ sizeL z' k = k ∧ Calls Tryd.prog 54 #[.slice (some ⟨g, 0, none⟩) N c] w fun e w' => e = .returned (.slice (some ⟨g, 0, none⟩) k c) ∧ w = w' := by
  have h := hO.num hW 0 N c (by omega) hc hc2
  refine ⟨sizeL (segW z 0 N) N, segW z 0 N, sizeL_le _ _, h.bare, ?_, sizeL_sizeL _ _, bare_any _ N c _ w (by omega) h⟩
  rw [val_bare, val_congr (x := segW z 0 N) (y := z) N fun i hi => by rw [segW_lt _ 0 N i hi, Nat.zero_add], hv]

def shlE (s : Nat) (n : Int) : Int := if n < 0 then 1 else if 2000 < (s : Int) + (n + 63) / 64 then 4 else 0
def shlV (s : Nat) (n V : Int) : Int := if n < 0 then 0 else if 2000 < (s : Int) + (n + 63) / 64 then 0 else V * 2 ^ n.toNat

set_option maxRecDepth 20000 in
set_option maxHeartbeats 1000000 in
theorem nshl_any (a : Option Addr) (n c : Nat) (x : Nat → Int) (d : Int) (w : World) (hn : n < 4000000000) (h : Num w a n c x) (hd : 0 ≤ d) (hs : (sizeL x n : Int) + (d + 63) / 64 ≤ 2000) :
    Calls Tryd.prog 88 #[.slice a n c, .int .i64 d] w fun e w' => ∃ g k cap z, e = .returned (.tuple #[.slice (some ⟨g, 0, none⟩) k cap, .int .i64 0]) ∧ k ≤ 2001 ∧ Num w' (some ⟨g, 0, none⟩) k cap z ∧ val z k = val x n * 2 ^ d.toNat ∧ sizeL z k = k ∧ Below w.heap.size w w' := by
  have hb := bare_any a n c x w (by omega) h
  rw [← val_bare n]
  have hx := h.2.2.1
  have hle := sizeL_le x n
  have hN := h.bare
  generalize sizeL x n = s at *
  clear h
  obtain ⟨q, hq⟩ : ∃ q : Nat, d / 64 = q := ⟨(d / 64).toNat, by omega⟩
  obtain ⟨r, hr⟩ : ∃ r : Nat, d % 64 = r := ⟨(d % 64).toNat, by omega⟩
  have hr64 : r < 64 := by omega
  have hdn : d.toNat = 64 * q + r := by omega
  rw [hdn]
  obtain ⟨N, hNs⟩ : ∃ N, s + q + 1 = N := ⟨_, rfl⟩
  have hNi : (s : Int) + q + 1 = N := by omega
  have hq2 : (q : Int) ≤ 2000 := by omega
  have hmk := fun w => make_any ((s : Int) + q + 1) N hNi (by omega) w
  have hA := apart_of hN
  have hO := Own.new w (fun _ => 0) N
  have hBW := below1 w (.cells (arrOf (fun _ => 0) N) 25)
  have hsu := shiftUp_any w.heap.size N q (N - q) (N - q) s c r a (fun _ => 0) x _ (by omega) (by omega) (by omega) hr64 hO (hN.next hBW) hA
  have hqN : (q : Int) ≤ N := by omega
  have HVL : Hid (val (upZ (fun _ => 0) x r q (s + 1)) N = val x s * 2 ^ (64 * q + r)) := by
    show _ = _
    rw [← hNs, show s + q + 1 = q + (s + 1) by omega]
    rw [val_congr (y := upW (shW x r) q) (q + (s + 1)) fun i hi => by
      unfold upZ upW
      by_cases e : q ≤ i
      · rw [if_pos (by omega), if_pos e]
      · rw [if_neg (by omega), if_neg e]]
    rw [val_up, sh_end hN.2.2.2.1 r (s + 1) (by omega), Int.mul_assoc, p64]
  have HW : Hid (Words (upZ (fun _ => 0) x r q (s + 1))) := fun i => by
    unfold upZ; split
    · exact shW_words hx hr64 _
    · exact (by decide : (0 : Int) ≤ 0 ∧ (0 : Int) ≤ 18446744073709551615)
  generalize hz : upZ (fun _ => 0) x r q (s + 1) = zz at *
  have HB : Hid (Below w.heap.size w (w.alloc (.cells (arrOf (fun _ => 0) N) 25))) := hBW
  have HNS : Hid (N ≤ 2001) := by show _ ≤ _; omega
  have hup : (s : Int) + q ≤ 2000 := by omega
  have hup2 : 0 < r → (s : Int) + (q + 1) ≤ 2000 := by omega
  clear hBW hN hA hO hNi hz hs hdn hx
  by_cases hr0 : 0 < r
  · have hr0' : (0 : Int) < r := by omega
    have hu := hup2 hr0
    clear hup2
    go_enter Tryd.func88, Tryd.ntmps88
    go_wp2_with (first | (go_at_call_of 54 (Value.slice a n c); refine hb.mono ?_; rintro e w' ⟨rfl, rfl⟩) | (go_at_call 101; refine hsu.mono ?_; rintro e w1 ⟨rfl, hO1, hU1⟩))
    obtain ⟨k, z', hkN, hNk, hvk, hsk, hbr⟩ := bare_own hO1 HW.out (by have := HNS.out; omega) (Nat.le_refl N) (by unfold maxLen; have := HNS.out; omega) HVL.out
    have HB2 : Hid (Below w.heap.size w w1) := HB.out.trans (hU1.below (Nat.le_refl _))
    have HNk : Hid (Num w1 (some ⟨w.heap.size, 0, none⟩) k N z') := hNk
    clear hO1 hU1 hNk
    go_wp2_with (go_at_call 54; refine hbr.mono ?_; rintro e w3 ⟨rfl, rfl⟩)
    go_ret2
    exact ⟨_, k, N, z', rfl, by have := HNS.out; omega, HNk.out, hvk, hsk, HB2.out⟩
  · obtain rfl : r = 0 := by omega
    clear hup2
    go_enter Tryd.func88, Tryd.ntmps88
    go_wp2_with (first | (go_at_call_of 54 (Value.slice a n c); refine hb.mono ?_; rintro e w' ⟨rfl, rfl⟩) | (go_at_call 101; refine hsu.mono ?_; rintro e w1 ⟨rfl, hO1, hU1⟩))
    obtain ⟨k, z', hkN, hNk, hvk, hsk, hbr⟩ := bare_own hO1 HW.out (by have := HNS.out; omega) (Nat.le_refl N) (by unfold maxLen; have := HNS.out; omega) HVL.out
    have HB2 : Hid (Below w.heap.size w w1) := HB.out.trans (hU1.below (Nat.le_refl _))
    have HNk : Hid (Num w1 (some ⟨w.heap.size, 0, none⟩) k N z') := hNk
    clear hO1 hU1 hNk
    go_wp2_with (go_at_call 54; refine hbr.mono ?_; rintro e w3 ⟨rfl, rfl⟩)
    go_ret2
    exact ⟨_, k, N, z', rfl, by have := HNS.out; omega, HNk.out, hvk, hsk, HB2.out⟩
set_option maxHeartbeats 400000 in
theorem nshl_neg (a : Option Addr) (n c : Nat) (d : Int) (w : World) (hd : d < 0) :
    Calls Tryd.prog 88 #[.slice a n c, .int .i64 d] w fun e w' => e = .returned (.tuple #[.slice none 0 0, .int .i64 1]) ∧ w = w' := by
  go_enter Tryd.func88, Tryd.ntmps88
  go_wp2
  go_ret2
  exact ⟨rfl, rfl⟩
set_option maxRecDepth 20000 in
set_option maxHeartbeats 1000000 in
theorem nshl_long (a : Option Addr) (n c : Nat) (x : Nat → Int) (d : Int) (w : World) (hn : n < 4000000000) (h : Num w a n c x) (hd : 0 ≤ d) (hd2 : d ≤ 9223372036854775807) (hs : 2000 < (sizeL x n : Int) + (d + 63) / 64) :
    Calls Tryd.prog 88 #[.slice a n c, .int .i64 d] w fun e w' => e = .returned (.tuple #[.slice none 0 0, .int .i64 4]) ∧ w = w' := by
  have hb := bare_any a n c x w (by omega) h
  have hle := sizeL_le x n
  generalize sizeL x n = s at *
  clear h
  obtain ⟨q, hq⟩ : ∃ q : Nat, d / 64 = q := ⟨(d / 64).toNat, by omega⟩
  obtain ⟨r, hr⟩ : ∃ r : Nat, d % 64 = r := ⟨(d % 64).toNat, by omega⟩
  have hr64 : r < 64 := by omega
  have hqb : (q : Int) ≤ 144115188075855871 := by omega
  by_cases hr0 : 0 < r
  · have hr0' : (0 : Int) < r := by omega
    have hu : 2000 < (s : Int) + (q + 1) := by omega
    clear hs hd2
    go_enter Tryd.func88, Tryd.ntmps88
    go_wp2_with (go_at_call 54; refine hb.mono ?_; rintro e w' ⟨rfl, rfl⟩)
    go_ret2
    exact ⟨rfl, rfl⟩
  · obtain rfl : r = 0 := by omega
    have hu : 2000 < (s : Int) + q := by omega
    clear hs hd2
    go_enter Tryd.func88, Tryd.ntmps88
    go_wp2_with (go_at_call 54; refine hb.mono ?_; rintro e w' ⟨rfl, rfl⟩)
    go_ret2
    exact ⟨rfl, rfl⟩
theorem nshl_all (a : Option Addr) (n c : Nat) (x : Nat → Int) (d : Int) (w : World) (hn : n < 4000000000) (h : Num w a n c x) (hd2 : d ≤ 9223372036854775807) :
    Calls Tryd.prog 88 #[.slice a n c, .int .i64 d] w fun e w' => ∃ o k cap z, e = .returned (.tuple #[.slice o k cap, .int .i64 (shlE (sizeL x n) d)]) ∧ k ≤ 2001 ∧ Num w' o k cap z ∧ val z k = shlV (sizeL x n) d (val x n) ∧ sizeL z k = k ∧ Below w.heap.size w w' := by
  by_cases hd : d < 0
  · refine (nshl_neg a n c d w hd).mono fun e w' hw => ⟨none, 0, 0, _, ?_, Nat.zero_le _, num_none w', ?_, rfl, hw.2 ▸ Below.refl _ _⟩
    · rw [hw.1]; unfold shlE; rw [if_pos hd]
    · unfold shlV; rw [if_pos hd]; rfl
  · by_cases hs : 2000 < (sizeL x n : Int) + (d + 63) / 64
    · refine (nshl_long a n c x d w hn h (by omega) hd2 hs).mono fun e w' hw => ⟨none, 0, 0, _, ?_, Nat.zero_le _, num_none w', ?_, rfl, hw.2 ▸ Below.refl _ _⟩
      · rw [hw.1]; unfold shlE; rw [if_neg hd, if_pos hs]
      · unfold shlV; rw [if_neg hd, if_pos hs]; rfl
    · refine (nshl_any a n c x d w hn h (by omega) (by omega)).mono fun e w' ⟨g, k, cap, z, e1, hk, hN, hv1, hs1, hB⟩ => ⟨_, k, cap, z, ?_, hk, hN, ?_, hs1, hB⟩
      · rw [e1]; unfold shlE; rw [if_neg hd, if_neg hs]
      · rw [hv1]; unfold shlV; rw [if_neg hd, if_neg hs]
end Go.Proofs.YthcndcanahhbcaaDoor

/-
  What the document's Pow and nat's Power do: contracts.
-/
set_option linter.unusedVariables false
set_option linter.unusedSimpArgs false
set_option maxRecDepth 20000
set_option linter.unusedSectionVars false
namespace Go.Proofs.YthcndcanahhbcaaDoor
open Go.RowKit

theorem val_one1 (c : Int) : val (oneW c) 1 = c := by simp [val, oneW]
theorem pow_half (s : Int) (m : Nat) : s ^ m = (if m % 2 = 1 then s else 1) * (s * s) ^ (m / 2) := by
  have e : (s * s) ^ (m / 2) = s ^ (2 * (m / 2)) := by rw [Int.pow_mul]; congr 1; rw [Int.pow_succ, Int.pow_succ, Int.pow_zero, Int.one_mul]
  rw [e]
  by_cases h : m % 2 = 1
  · rw [if_pos h, Int.mul_comm, ← Int.pow_succ]; congr 1; omega
  · rw [if_neg h, Int.one_mul]; congr 1; omega

set_option maxHeartbeats 2000000 in
theorem rpow_any (b : Int) (n : Nat) (w : World) (hb : 0 ≤ b ∧ b ≤ 18446744073709551615) (hn : n ≤ 12000) :
    Calls Tryd.prog 51 #[.int .u64 b, .int .i64 n] w fun e w' => ∃ g k cap z, e = .returned (.slice (some ⟨g, 0, none⟩) k cap) ∧ k ≤ 50000 ∧ Num w' (some ⟨g, 0, none⟩) k cap z ∧ val z k = b ^ n ∧ Below w.heap.size w w' := by
  have hN1 := num_one w 1 (by decide)
  have hB1 := below1 w (.cells #[.int .u64 1] 25)
  have hN2 := num_one (w.alloc (.cells #[.int .u64 1] 25)) b hb
  have hB2 := below1 (w.alloc (.cells #[.int .u64 1] 25)) (.cells #[.int .u64 b] 25)
  have hN1' := hN1.next hB2
  have hB := hB1.trans (hB2.mono hB1.size)
  have hs : (w.alloc (.cells #[.int .u64 1] 25)).heap.size = w.heap.size + 1 := by simp
  rw [hs] at hN2
  have HB : Hid (Below w.heap.size w ((w.alloc (.cells #[.int .u64 1] 25)).alloc (.cells #[.int .u64 b] 25))) := hB
  clear hN1 hB1 hB2 hB hs
  go_enter Tryd.func51, Tryd.ntmps51
  go_wp2
  generalize (w.alloc (.cells #[.int .u64 1] 25)).alloc (.cells #[.int .u64 b] 25) = wA at *
  go_loopw [1, 5, 6] (fun nv ov sv wr => ∃ (m P g1 k1 p1 g2 k2 p2 : Nat) (z1 z2 : Nat → Int), nv = .int .i64 m ∧ m ≤ n ∧ 1 ≤ P ∧ m * P ≤ n ∧ P ≤ 2 * n + 1 ∧ ov = .slice (some ⟨g1, 0, none⟩) k1 p1 ∧ sv = .slice (some ⟨g2, 0, none⟩) k2 p2 ∧ k1 + 1 ≤ 2 * P ∧ k2 + 1 ≤ 2 * P ∧ Num wr (some ⟨g1, 0, none⟩) k1 p1 z1 ∧ Num wr (some ⟨g2, 0, none⟩) k2 p2 z2 ∧ Hid (val z1 k1 * val z2 k2 ^ m = b ^ n) ∧ Below w.heap.size w wr) (fun nv _ _ _ => (intOf nv).toNat)
  case atStart => exact ⟨n, 1, w.heap.size, 1, 1, w.heap.size + 1, 1, 1, oneW 1, oneW b, rfl, Nat.le_refl _, Nat.le_refl _, by omega, by omega, rfl, rfl, by omega, by omega, hN1', hN2, by show _ = _; rw [val_one1, val_one1, Int.one_mul], HB.out⟩
  case round =>
    clear hN1' hN2 HB
    obtain ⟨m, P, g1, k1, p1, g2, k2, p2, z1, z2, rfl, hmn, hP, hmP, hP2, rfl, rfl, hk1, hk2, hN1, hN2, hv, hB⟩ := hrel
    by_cases h0 : m = 0
    · subst h0
      have HV : Hid (val z1 k1 = b ^ n) := by show _ = _; have := hv.out; simpa using this
      have HN1 : Hid (Num wr (some ⟨g1, 0, none⟩) k1 p1 z1) := hN1
      clear hN1 hN2 hv
      go_wp2
      go_ret
      exact ⟨g1, k1, p1, z1, rfl, by omega, HN1.out, HV.out, hB⟩
    · have hm0 : (0 : Int) < m := by omega
      have hPn : P ≤ n := by
        have : 1 * P ≤ m * P := Nat.mul_le_mul_right P (by omega)
        omega
      have hq2 : (m : Int) / 2 = ((m / 2 : Nat) : Int) := by omega
      have hr2 : (m : Int) % 2 = ((m % 2 : Nat) : Int) := by omega
      have hmP' : m / 2 * (2 * P) ≤ n := by
        have h1 : m / 2 * 2 ≤ m := Nat.div_mul_le_self m 2
        have h2 : m / 2 * 2 * P ≤ m * P := Nat.mul_le_mul_right P h1
        rw [← Nat.mul_assoc]; omega
      have HPH : Hid (val z2 k2 ^ m = (if m % 2 = 1 then val z2 k2 else 1) * (val z2 k2 * val z2 k2) ^ (m / 2)) := pow_half _ _
      have tt := fun wr (hb : Below w.heap.size w wr) h1 h2 => times_val g1 0 k1 p1 g2 0 k2 p2 z1 z2 wr (by omega) (by omega) h1 h2
      have ts := fun wr (hb : Below w.heap.size w wr) h2 => times_val g2 0 k2 p2 g2 0 k2 p2 z2 z2 wr (by omega) (by omega) h2 h2
      generalize hq : m / 2 = q at *
      by_cases hodd : m % 2 = 1
      · rw [hodd] at hr2
        rw [if_pos hodd] at HPH
        have t1 := tt wr hB hN1 hN2
        by_cases hq0 : q = 0
        · subst hq0
          have hq00 : (m : Int) / 2 = 0 := hq2
          clear hq2
          go_wp2_with (go_at_call 17; refine t1.mono ?_; rintro e w1 ⟨g3, k3, p3, z3, rfl, hk3, hN3, hv3, hb1⟩; clear tt t1)
          have HV3 : Hid (val z3 k3 * val z2 k2 ^ 0 = b ^ n) := by
            show _ = _
            rw [hv3, ← hv.out, HPH.out]; simp
          have HN3 : Hid (Num w1 (some ⟨g3, 0, none⟩) k3 p3 z3) := hN3
          have HN2 : Hid (Num w1 (some ⟨g2, 0, none⟩) k2 p2 z2) := hN2.next hb1
          have hB1 := hB.trans (hb1.mono hB.size)
          clear hN1 hN2 hN3 hv hv3 ts
          go_roundw
          case rel => exact ⟨0, 2 * P, g3, k3, p3, g2, k2, p2, z3, z2, rfl, by omega, by omega, by omega, by omega, rfl, rfl, by omega, by omega, HN3.out, HN2.out, HV3, hB1⟩
          case measure => simp [intOf]; omega
        · have hq0' : (0 : Int) < q := by omega
          go_wp2_with (go_at_call 17; refine t1.mono ?_; rintro e w1 ⟨g3, k3, p3, z3, rfl, hk3, hN3, hv3, hb1⟩; clear tt t1)
          have hB1 := hB.trans (hb1.mono hB.size)
          have hN21 := hN2.next hb1
          have t2 := ts w1 hB1 hN21
          go_wp2_with (go_at_call 17; refine t2.mono ?_; rintro e w2 ⟨g4, k4, p4, z4, rfl, hk4, hN4, hv4, hb2⟩; clear ts t2)
          have HV3 : Hid (val z3 k3 * val z4 k4 ^ q = b ^ n) := by
            show _ = _
            rw [hv3, hv4, ← hv.out, HPH.out, Int.mul_assoc]
          have HN3 : Hid (Num w2 (some ⟨g3, 0, none⟩) k3 p3 z3) := hN3.next hb2
          have HN4 : Hid (Num w2 (some ⟨g4, 0, none⟩) k4 p4 z4) := hN4
          have hB2 := hB1.trans (hb2.mono hB1.size)
          clear hN1 hN2 hN3 hN21 hN4 hv hv3 hv4
          go_roundw
          case rel => exact ⟨q, 2 * P, g3, k3, p3, g4, k4, p4, z3, z4, rfl, by omega, by omega, by omega, by omega, rfl, rfl, by omega, by omega, HN3.out, HN4.out, HV3, hB2⟩
          case measure => simp [intOf]; omega
      · have h20 : m % 2 = 0 := by omega
        rw [h20] at hr2
        rw [if_neg hodd, Int.one_mul] at HPH
        have hq0' : (0 : Int) < q := by omega
        have t2 := ts wr hB hN2
        go_wp2_with (go_at_call 17; refine t2.mono ?_; rintro e w2 ⟨g4, k4, p4, z4, rfl, hk4, hN4, hv4, hb2⟩; clear ts tt t2)
        have HV3 : Hid (val z1 k1 * val z4 k4 ^ q = b ^ n) := by
          show _ = _
          rw [hv4, ← hv.out, HPH.out]
        have HN3 : Hid (Num w2 (some ⟨g1, 0, none⟩) k1 p1 z1) := hN1.next hb2
        have HN4 : Hid (Num w2 (some ⟨g4, 0, none⟩) k4 p4 z4) := hN4
        have hB2 := hB.trans (hb2.mono hB.size)
        clear hN1 hN2 hN4 hv hv4
        go_roundw
        case rel => exact ⟨q, 2 * P, g1, k1, p1, g4, k4, p4, z1, z4, rfl, by omega, by omega, by omega, by omega, rfl, rfl, by omega, by omega, HN3.out, HN4.out, HV3, hB2⟩
        case measure => simp [intOf]; omega
end Go.Proofs.YthcndcanahhbcaaDoor
